/-
  Texts that the walks lean on, one behind the other: Words, LeMath, CrcMath, LeMath2, RecMath, Blk, Drawn, Join, Store, Args, Steps, DevWords, DevArgs, Strs, CrcMath2, LeSmall, LePut, Goto, CrcFns, LePack, LeRef, LeAwake, CrcSeal, Rec1, CrcAwake, CrcGoesWalk, CrcSealsWalk, CrcNoneWalk, CrcLinearWalk, CrcBurstWalk, CrcRef, Arr, CrcRefJoin, CrcTellsWalk, Rec2.
-/
import Derived.WalkKit
import Derived.WalkSpells
import Derived.WalkLawsBesides
import Derived.Deep.AppendLies
import Derived.Lib.OthersKept
import Derived.Lib.Hide
import Derived.Lib.BufferRead
import Derived.Laws.CopyOwn
import Derived.Laws.IdiomStrings
import Derived.OpenShut
import Derived.Laws.Rows
import Derived.Laws.ResultCell
import Derived.Deep.RegionHeld
import Derived.Below
import Derived.Laws.OwnMore
import Derived.ChangeOld
import Derived.ProofKit
import Derived.Deep.Slices
import Derived.Deep.Fields
import Derived.Lib.SmallJoins
import Derived.Maps.AppendAt
import Derived.Laws.BitsAllLaws
import Derived.Test.YtnejiclghnigiaaDoorRows
import Derived.Deep.QuietTactic
import Derived.BigQuiet
import Derived.WalkMore
import Derived.ScopeJumps
import Derived.Deep.LoopGhost
import Derived.Deep.RegionHeld3
import Derived.Deep.DrawnRows
import Derived.Lib.SlBytesConst
import Derived.StillTailTactics
import Derived.Laws.Tables
namespace Go.Wag
open Go.RowKit

/-- A byte, and a number of 64 bits, as cells. -/
def v8 (c : UInt8) : Value := .int .u8 (c.toNat : Int)
def v64 (c : UInt64) : Value := .int .u64 (c.toNat : Int)

theorem add_block (a : Addr) (n : Nat) : (a.add n).block = a.block := by unfold Addr.add; split <;> rfl
theorem add_add (a : Addr) (i j : Nat) : (a.add i).add j = a.add (i + j) := by
  unfold Addr.add
  by_cases hi : i = 0 <;> by_cases hj : j = 0 <;> simp [hi, hj, Nat.add_assoc]

/-- '.slice A n c' reads, in world w, as the cells xs (elements of one cell each); nil and empty are let in. -/
structure Sl (w : World) (A : Option Addr) (n c : Nat) (xs : List Value) : Prop where
  len : xs.length = n
  cap : n ≤ c
  big : c ≤ 9223372036854775807
  cells : 0 < n → ∃ ad, A = some ad ∧ ad.block < w.heap.size ∧ ∀ j u, xs[j]? = some u → w.cell? (ad.add j) = some u

/-- A slice value that reads as xs. -/
def IsSl (w : World) (v : Value) (xs : List Value) : Prop := ∃ A n c, v = .slice A n c ∧ Sl w A n c xs

section
variable {w w' : World} {A : Option Addr} {n c : Nat} {xs : List Value}

theorem Sl.nil (w : World) : Sl w none 0 0 [] := ⟨rfl, Nat.le_refl _, by omega, fun h => absurd h (by omega)⟩

theorem Sl.keep (h : Sl w A n c xs) (hs : w.heap.size ≤ w'.heap.size) (hk : ∀ p : Addr, p.block < w.heap.size → w'.cell? p = w.cell? p) : Sl w' A n c xs :=
  ⟨h.len, h.cap, h.big, fun hn => by
    obtain ⟨ad, e, hb, hc⟩ := h.cells hn
    exact ⟨ad, e, by omega, fun j u hu => (hk _ (by rw [add_block]; exact hb)).trans (hc j u hu)⟩⟩

theorem Sl.below (h : Sl w A n c xs) (hb : Below w.heap.size w w') : Sl w' A n c xs := h.keep hb.size fun _ hp => hb.cell hp

theorem Sl.drew (h : Sl w A n c xs) : Sl w.drew A n c xs := ⟨h.len, h.cap, h.big, h.cells⟩
theorem Sl.drewN (h : Sl w A n c xs) (k : Nat) : Sl (w.drewN k) A n c xs := ⟨h.len, h.cap, h.big, h.cells⟩
theorem Sl.alloc (h : Sl w A n c xs) (o : Obj) : Sl (w.alloc o) A n c xs := h.below ((Below.refl _ _).alloc (Nat.le_refl _) o)

theorem Sl.at_ {k : Nat} (h : Sl w A n c xs) (hk : k < n) : ∃ ad u, A = some ad ∧ ad.block < w.heap.size ∧ xs[k]? = some u ∧ w.cell? (ad.add k) = some u := by
  obtain ⟨ad, e, hb, hc⟩ := h.cells (by omega)
  have hl : k < xs.length := by have := h.len; omega
  exact ⟨ad, xs[k], e, hb, List.getElem?_eq_getElem hl, hc k _ (List.getElem?_eq_getElem hl)⟩

/-- The address of 's[k:]', as the model has it: at the capacity's end the old one stays. -/
def cutA (A : Option Addr) (c k : Nat) : Option Addr := if c = k then A else A.map (·.add k)

/-- 's[k:h]'. -/
theorem Sl.cut (h : Sl w A n c xs) {k m : Nat} (hk : k ≤ m) (hm : m ≤ n) : Sl w (cutA A c k) (m - k) (c - k) ((xs.take m).drop k) := by
  refine ⟨by rw [List.length_drop, List.length_take, h.len]; omega, by have := h.cap; omega, by have := h.big; omega, fun hn => ?_⟩
  obtain ⟨ad, rfl, hb, hc⟩ := h.cells (by omega)
  have hne : ¬ c = k := by have := h.cap; omega
  refine ⟨ad.add k, by simp [cutA, hne], by rw [add_block]; exact hb, fun j u hu => ?_⟩
  rw [add_add]
  rw [List.getElem?_drop, List.getElem?_take] at hu
  split at hu
  · exact hc _ u hu
  · cases hu

/-- 's[k:]'. -/
theorem Sl.from_ (h : Sl w A n c xs) {k : Nat} (hk : k ≤ n) : Sl w (cutA A c k) (n - k) (c - k) (xs.drop k) := by
  have := h.cut hk (Nat.le_refl n)
  rwa [List.take_of_length_le (by rw [h.len]; exact Nat.le_refl _)] at this

/-- 's[:m]'. -/
theorem Sl.upto (h : Sl w A n c xs) {m : Nat} (hm : m ≤ n) : Sl w A m c (xs.take m) := by
  refine ⟨by rw [List.length_take, h.len]; omega, by have := h.cap; omega, h.big, fun hn => ?_⟩
  obtain ⟨ad, rfl, hb, hc⟩ := h.cells (by omega)
  refine ⟨ad, rfl, hb, fun j u hu => hc j u ?_⟩
  rw [List.getElem?_take] at hu
  split at hu
  · exact hu
  · cases hu

/-- A block that was just laid, read whole. -/
theorem Sl.new (w : World) (l : List Value) (t : TypeId) (hl : l.length ≤ 9223372036854775807) : Sl (w.alloc (.cells l.toArray t)) (some ⟨w.heap.size, 0, none⟩) l.length l.length l :=
  ⟨rfl, Nat.le_refl _, hl, fun _ => ⟨_, rfl, by simp, fun j u hu => by
    have hb := heap_alloc_new w (.cells l.toArray t)
    have := World.news_of_block hb j u (by simpa using hu)
    exact this⟩⟩

theorem Sl.of_own {base : Nat} {e : TypeId} (h : w.ownsRow base e 1 (.slice A n c) n xs) : Sl w A n c xs := by
  have hl : xs.length = n := by simpa using h.1
  rcases h.2 with ⟨hv, rfl⟩ | ⟨g, cap, cur, hv, hb, hg, hnc, hm, hcs, ht⟩
  · obtain ⟨rfl, -, rfl⟩ : A = none ∧ 0 = 0 ∧ c = 0 := by simpa using hv
    exact ⟨hl, Nat.le_refl _, by omega, fun h => absurd h (by omega)⟩
  · obtain ⟨rfl, rfl⟩ : A = some ⟨g, 0, none⟩ ∧ c = cap := by simpa using hv
    exact ⟨hl, hnc, by simpa [maxLen] using hm, fun _ => ⟨_, rfl, (Array.getElem?_eq_some_iff.1 hg).1, h.cells (g := g) rfl⟩⟩

/-- A slice value that owns something is a slice value. -/
theorem own_form {base : Nat} {e : TypeId} {size : Nat} {v : Value} (h : w.ownsRow base e size v n xs) : ∃ A c, v = .slice A n c := by
  rcases h.2 with ⟨rfl, rfl⟩ | ⟨g, cap, cur, rfl, _⟩
  · exact ⟨_, _, rfl⟩
  · exact ⟨_, _, rfl⟩

theorem IsSl.of_own {base : Nat} {e : TypeId} {v : Value} (h : w.ownsRow base e 1 v n xs) : IsSl w v xs := by
  obtain ⟨A, c, rfl⟩ := own_form h
  exact ⟨A, n, c, rfl, Sl.of_own h⟩

theorem IsSl.below {v : Value} (h : IsSl w v xs) (hb : Below w.heap.size w w') : IsSl w' v xs := by
  obtain ⟨A, n, c, e, hs⟩ := h
  exact ⟨A, n, c, e, hs.below hb⟩
theorem IsSl.nil (w : World) : IsSl w (.slice none 0 0) [] := ⟨_, _, _, rfl, Sl.nil w⟩

/-- A slice of bytes: its byte at k. -/
theorem Sl.byte {l : List UInt8} {k : Nat} (h : Sl w A n c (l.map v8)) (hk : k < n) :
    ∃ ad, A = some ad ∧ ad.block < w.heap.size ∧ ∃ hl : k < l.length, w.cell? (ad.add k) = some (.int .u8 ((l[k]'hl).toNat : Int)) := by
  obtain ⟨ad, u, e, hb, hu, hc⟩ := h.at_ hk
  have hl : k < l.length := by have := h.len; simp at this; omega
  refine ⟨ad, e, hb, hl, ?_⟩
  rw [hc, ← hu]
  simp [v8, List.getElem?_eq_getElem hl]

/-- A slice of numbers: the one at k. -/
theorem Sl.num {l : List UInt64} {k : Nat} (h : Sl w A n c (l.map v64)) (hk : k < n) :
    ∃ ad, A = some ad ∧ ad.block < w.heap.size ∧ ∃ hl : k < l.length, w.cell? (ad.add k) = some (.int .u64 ((l[k]'hl).toNat : Int)) := by
  obtain ⟨ad, u, e, hb, hu, hc⟩ := h.at_ hk
  have hl : k < l.length := by have := h.len; simp at this; omega
  refine ⟨ad, e, hb, hl, ?_⟩
  rw [hc, ← hu]
  simp [v64, List.getElem?_eq_getElem hl]

theorem Sl.len8 {l : List UInt8} (h : Sl w A n c (l.map v8)) : l.length = n := by simpa using h.len
theorem Sl.len64 {l : List UInt64} (h : Sl w A n c (l.map v64)) : l.length = n := by simpa using h.len

/-- 'string(b)'. -/
theorem Sl.run_string {P : Program} {l : List UInt8} (h : Sl w A n c (l.map v8)) (src dst e : TypeId) (hs : P.underlying src = some (.slice e)) (he : P.underlying e = some (.int .u8)) (hd : P.underlying dst = some .string) :
    (convert src dst (.slice A n c)).run P w = .ok (.string ⟨l.toArray⟩) w := by
  have hl := h.len8
  rcases A with _ | ad
  · have hn : n = 0 := by
      rcases Nat.eq_zero_or_pos n with h0 | h0
      · exact h0
      · obtain ⟨ad, h, _⟩ := h.cells h0
        cases h
    subst hn
    have hln : l = [] := List.eq_nil_of_length_eq_zero hl
    subst hln
    exact Lib.run_convert_nil_bytes w src dst e c hs he hd
  · subst hl
    refine run_convert_bytes_back w src dst e ad c l hs he hd fun j hj => ?_
    obtain ⟨ad', e', _, hl', hc⟩ := h.byte hj
    injection e' with e'
    subst e'
    exact hc

theorem oneCell8 (l : List UInt8) : ∀ u ∈ l.map v8, u.oneCell' = true := by
  intro u hu
  obtain ⟨x, _, rfl⟩ := List.mem_map.1 hu
  rfl
theorem oneCell64 (l : List UInt64) : ∀ u ∈ l.map v64, u.oneCell' = true := by
  intro u hu
  obtain ⟨x, _, rfl⟩ := List.mem_map.1 hu
  rfl
end

/-- Two steps of growth, each at the row that the value then owns. -/
theorem grown_step {a b c : World} {v v' : Value} (h : a.grownBy b v.ownBlock) (hv : v'.ownBlock = v.ownBlock ∨ ∀ k, v'.ownBlock = some k → a.heap.size ≤ k) (k : b.grownBy c v'.ownBlock) : a.grownBy c v.ownBlock :=
  ⟨k.os.trans h.os, k.tape.trans h.tape, k.output.trans h.output, Nat.le_trans h.size k.size, fun i hi hne => (k.block i (Nat.lt_of_lt_of_le hi h.size) (fun e => by
    rcases hv with hv | hv
    · exact hne (e.trans hv)
    · have := hv i e.symm
      omega)).trans (h.block i hi hne)⟩

/-- Cells that were made are zeros. -/
theorem length_made (z : Array Value) (n : Nat) : (madeCells z n).toList.length = n := by simp [madeCells]

/-- v is, in world w, a row of its own (blocks from 'base' on) that reads as xs; from world w0 on, where the row was v0, nothing old but that row has turned. -/
structure Own (base : Nat) (e : TypeId) (w0 w : World) (v0 v : Value) (n : Nat) (xs : List Value) : Prop where
  own : w.ownsRow base e 1 v n xs
  grown : w0.grownBy w v0.ownBlock
  lies : v.ownBlock = v0.ownBlock ∨ ∀ k, v.ownBlock = some k → w0.heap.size ≤ k
  base_le : base ≤ w0.heap.size

section
variable {base : Nat} {e : TypeId} {w0 w : World} {v0 v : Value} {n : Nat} {xs : List Value}
theorem Own.start (h : w.ownsRow base e 1 v n xs) (hb : base ≤ w.heap.size) : Own base e w w v v n xs := ⟨h, World.grownBy.refl w _, .inl rfl, hb⟩
theorem Own.alloc (h : Own base e w0 w v0 v n xs) (o : Obj) : Own base e w0 (w.alloc o) v0 v n xs :=
  ⟨h.own.alloc o, h.grown.trans (World.grownBy_alloc w o _), h.lies, h.base_le⟩
theorem Own.drew (h : Own base e w0 w v0 v n xs) : Own base e w0 w.drew v0 v n xs :=
  ⟨h.own.drew, ⟨h.grown.os, h.grown.tape, h.grown.output, h.grown.size, h.grown.block⟩, h.lies, h.base_le⟩
theorem Own.drewN (h : Own base e w0 w v0 v n xs) (k : Nat) : Own base e w0 (w.drewN k) v0 v n xs :=
  ⟨h.own, ⟨h.grown.os, h.grown.tape, h.grown.output, h.grown.size, h.grown.block⟩, h.lies, h.base_le⟩
theorem Own.hbase (h : Own base e w0 w v0 v n xs) : base ≤ w.heap.size := Nat.le_trans h.base_le h.grown.size
theorem Own.sl (h : Own base e w0 w v0 v n xs) : IsSl w v xs := IsSl.of_own h.own
theorem Own.form (h : Own base e w0 w v0 v n xs) : ∃ A c, v = .slice A n c := own_form h.own
/-- Where the row began as nil, or among the blocks that are new since W. -/
theorem Own.below {B : Nat} {W : World} (h : Own base e w0 w v0 v n xs) (hb : Below B W w0) (hB : B ≤ w0.heap.size) (hv : ∀ k, v0.ownBlock = some k → B ≤ k) : Below B W w := hb.grown h.grown hB hv
/-- Another step of growth behind this one. -/
theorem Own.step {w1 : World} {v1 : Value} {m : Nat} {ys : List Value} (h : Own base e w0 w v0 v n xs) (k : Own base e w w1 v v1 m ys) : Own base e w0 w1 v0 v1 m ys :=
  ⟨k.own, grown_step h.grown h.lies k.grown, by
    rcases k.lies with k | k
    · rw [k]; exact h.lies
    · exact .inr fun i hi => Nat.le_trans h.grown.size (k i hi), h.base_le⟩
end

section
variable {P : Program} {base : Nat} {e : TypeId} {w0 w : World} {v0 v : Value} {n : Nat} {xs : List Value}
theorem run_app (h : Own base e w0 w v0 v n xs) (t ty : TypeId) (i : TypeInfo) (z : Value) (bytes : Nat) (ht : P.underlying t = some (.slice e)) (hi : P.info? e = some i) (hz : i.zero = some z)
    (hsize : i.size = 1) (hby : i.bytes = bytes) (hzs : z.cells.size = 1) (A : Option Addr) (m c : Nat) (news : List Value) (hs : Sl w A m c news) (h1 : ∀ u ∈ news, u.oneCell' = true)
    (hbytes : (n + m) * bytes ≤ 140737488355328) (h63 : n + m ≤ 9223372036854775807) :
    ∃ A' c' w', (Builtin.append_ #[t, t] ty #[v, .slice A m c]).run P w = .ok (.slice A' (n + m) c') w' ∧ Own base e w0 w' v0 (.slice A' (n + m) c') (n + m) (xs ++ news) := by
  by_cases hA : A = none
  · subst hA
    have hm : m = 0 := by
      rcases Nat.eq_zero_or_pos m with h0 | h0
      · exact h0
      · obtain ⟨ad, h, _⟩ := hs.cells h0
        cases h
    subst hm
    have hn : news = [] := List.eq_nil_of_length_eq_zero hs.len
    subst hn
    obtain ⟨A', c', rfl⟩ := h.form
    refine ⟨A', c', w, ?_, by simpa using h⟩
    rcases h.own.2 with ⟨hv, rfl⟩ | ⟨g, cap, cur, hv, _, _, hnc, _⟩
    · obtain ⟨rfl, -, rfl⟩ : A' = none ∧ 0 = 0 ∧ c' = 0 := by simpa using hv
      simp [Builtin.append_, run_underlying ht, sizeOf, typeInfo, hi, Builtin.lenOf, Builtin.firstCells]
    · obtain ⟨rfl, rfl⟩ : A' = some ⟨g, 0, none⟩ ∧ c' = cap := by simpa using hv
      simp [Builtin.append_, run_underlying ht, sizeOf, typeInfo, hi, Builtin.lenOf, Builtin.firstCells, hnc, storeCells]
  · obtain ⟨ad, rfl⟩ := Option.ne_none_iff_exists'.1 hA
    have hcells : ∀ j u, news[j]? = some u → w.cell? (ad.add j) = some u := by
      intro j u hu
      rcases Nat.eq_zero_or_pos m with h0 | h0
      · subst h0
        have hn : news = [] := List.eq_nil_of_length_eq_zero hs.len
        subst hn
        simp at hu
      · obtain ⟨ad', h, _, hc⟩ := hs.cells h0
        injection h with h
        subst h
        exact hc j u hu
    obtain ⟨v', w', hr, h2, h3, _, h5⟩ := run_append_own_at (P := P) w base t ty e i z 1 bytes ht hi hz hsize hby hzs (by decide) v n xs h.own ad m c news (by rw [hs.len]; omega) hcells h1 (by simp only [maxLen]; omega) hbytes h.hbase
    obtain ⟨A', c', rfl⟩ := own_form h2
    refine ⟨A', c', w', hr, h.step ⟨h2, h3, ?_, h.hbase⟩⟩
    rcases h5 with h5 | h5
    · exact .inl h5
    · exact .inr fun k hk => by rw [h5] at hk; injection hk with hk; omega

/-- 'out = append(out, xs...)', out a row of the call's own (or nil), xs whatever. -/
theorem wpList_app {ops : Array Oper} {rest : List Oper} {o : Oper} {a : Act} {Q : Exit → Act → World → Prop} (hgd : o.guard = none) (s x : Operand) (t : TypeId)
    (ho : o.op = .call { callee := .builtin .append, args := #[s, x], argTypes := #[t, t] }) (hs : a.eval s = v) (h : Own base e w0 w v0 v n xs)
    (i : TypeInfo) (z : Value) (bytes : Nat) (ht : P.underlying t = some (.slice e)) (hi : P.info? e = some i) (hz : i.zero = some z)
    (hsize : i.size = 1) (hby : i.bytes = bytes) (hzs : z.cells.size = 1) (A : Option Addr) (m c : Nat) (news : List Value) (hx : a.eval x = .slice A m c) (hsl : Sl w A m c news) (h1 : ∀ u ∈ news, u.oneCell' = true)
    (hbytes : (n + m) * bytes ≤ 140737488355328) (h63 : n + m ≤ 9223372036854775807)
    (hgo : ∀ A' c' w', Own base e w0 w' v0 (.slice A' (n + m) c') (n + m) (xs ++ news) → wpList P ops Q rest (a.put o.dst (.slice A' (n + m) c')) w') : wpList P ops Q (o :: rest) a w := by
  refine wpList_plain hgd fun K hK => ?_
  obtain ⟨A', c', w', hr, h2⟩ := run_app (P := P) h t o.type i z bytes ht hi hz hsize hby hzs A m c news hsl h1 hbytes h63
  unfold Oper.wp execOp
  simp only [ho, resolve, invoke, builtin, Sem.run_bind, Sem.run_pure, Result.andThen_ok, List.map_toArray, List.map_cons, List.map_nil, hs, hx, hr]
  exact hK _ _ (hgo A' c' w' h2)
end

/-- One new cell, in a block of its own. -/
theorem Sl.one (w : World) (u : Value) (t : TypeId) : Sl (w.alloc (.cells #[u] t)) (some ⟨w.heap.size, 0, none⟩) 1 1 [u] := Sl.new w [u] t (by simp)

/-- A row that 'make' lays: so many cells z. -/
def mk0 (z : Value) (c : Nat) : Array Value := Array.replicate c z

theorem madeCells_one (z : Value) (c : Nat) : madeCells #[z] c = mk0 z c := by
  apply Array.ext
  · simp [madeCells, mk0]
  · intro j h1 h2
    simp [madeCells, mk0, Nat.mod_one]

theorem run_mk {P : Program} (t e : TypeId) (i : TypeInfo) (z : Value) (bytes : Nat) (ht : P.underlying t = some (.slice e)) (hi : P.info? e = some i) (hz : i.zero = some z) (hsize : i.size = 1) (hby : i.bytes = bytes)
    (hzc : z.cells = #[z]) (kl kc : IntKind) (L C : Int) (n c : Nat) (hL : L = n) (hC : C = c) (hnc : n ≤ c) (hbytes : bytes * c ≤ 281474976710656) (h63 : c ≤ 9223372036854775807) (w : World) :
    (Instr.makeSlice t (.int kl L) (.int kc C)).run P w = .ok (.slice (some ⟨w.heap.size, 0, none⟩) n c) (w.alloc (.cells (mk0 z c) e)) := by
  subst hL hC hby
  have hb : (i.bytes : Int) * (c : Int) ≤ 281474976710656 := by
    have h : ((i.bytes * c : Nat) : Int) ≤ 281474976710656 := by omega
    rwa [Int.natCast_mul] at h
  have hr := run_make (P := P) w t e i z ht hi hz kl kc n c (by omega) (by omega) hb (by omega)
  simp only [Int.toNat_natCast, hsize, Nat.mul_one, hzc, madeCells_one] at hr
  exact hr

/-- What was just made is a row of one's own. -/
theorem Own.made (w : World) (z : Value) (e : TypeId) (n c : Nat) (hnc : n ≤ c) (hc : c ≤ 9223372036854775807) :
    Own w.heap.size e (w.alloc (.cells (mk0 z c) e)) (w.alloc (.cells (mk0 z c) e)) (.slice (some ⟨w.heap.size, 0, none⟩) n c) (.slice (some ⟨w.heap.size, 0, none⟩) n c) n (List.replicate n z) :=
  Own.start ⟨by simp, .inr ⟨w.heap.size, c, mk0 z c, rfl, Nat.le_refl _, heap_alloc_new w _, hnc, by simp only [maxLen]; omega, by simp [mk0], by
    simp [mk0, List.take_replicate, Nat.min_eq_left hnc]⟩⟩ (by simp)

section
variable {P : Program} {base : Nat} {e : TypeId} {w0 w : World} {v0 : Value} {n : Nat} {xs : List Value}
theorem run_cpy {Ad : Option Addr} {cd : Nat} (h : Own base e w0 w v0 (.slice Ad n cd) n xs) (dT sT ty : TypeId) (hu : P.underlying dT = some (.slice e)) (hsz : (P.info? e).map (·.size) = some 1)
    (A : Option Addr) (m c : Nat) (ys : List Value) (hs : Sl w A m c ys) (h1 : ∀ u ∈ ys, u.oneCell' = true) :
    ∃ w', (Builtin.copy_ #[dT, sT] ty #[.slice Ad n cd, .slice A m c]).run P w = .ok (goInt (Nat.min m n)) w' ∧ Own base e w0 w' v0 (.slice Ad n cd) n (ys.take n ++ xs.drop m) := by
  have hxl : xs.length = n := by simpa using h.own.1
  have hyl := hs.len
  obtain ⟨q, hq, hq'⟩ : ∃ q, Nat.min m n = q ∧ ((m ≤ n ∧ q = m) ∨ (n ≤ m ∧ q = n)) := ⟨min m n, rfl, by omega⟩
  rw [hq]
  by_cases h0 : q = 0
  · refine ⟨w, ?_, ?_⟩
    · rw [h0]; exact run_copy_none (P := P) w dT sT ty e Ad A n cd m c hu hsz (by rw [hq]; exact h0)
    · have e1 : ys.take n ++ xs.drop m = xs := by
        rcases (show m = 0 ∨ n = 0 by omega) with hm | hn
        · have : ys = [] := List.eq_nil_of_length_eq_zero (by omega)
          subst this; simp [hm]
        · have : xs = [] := List.eq_nil_of_length_eq_zero (by omega)
          subst this; simp [hn]
      rw [e1]; exact h
  · obtain ⟨ad, rfl, hb, hcells⟩ := hs.cells (by omega)
    obtain ⟨hlen, hn | ⟨g, cap, cur, hv, hbg, hg, hnc, hcm, hcs, ht⟩⟩ := h.own
    · exact absurd hn.2 (by omega)
    · obtain ⟨rfl, rfl⟩ : Ad = some ⟨g, 0, none⟩ ∧ cd = cap := by simpa using hv
      have hcl : (ys.take n).length = q := by
        rw [List.length_take, hyl]
        omega
      have hr := run_copy_row (P := P) w dT sT ty e g 0 n cd ad m c cur e (ys.take n) hu hsz hg (by rw [hcl, hq]) (fun j v hj => hcells j v (by
        rw [List.getElem?_take] at hj
        split at hj
        · exact hj
        · cases hj)) (by rw [hcl, hcs]; omega) (fun u hu' => h1 u (List.mem_of_mem_take hu'))
      rw [hcl] at hr
      refine ⟨_, hr, h.step ⟨⟨?_, .inr ⟨g, cd, _, rfl, hbg, setRow_heap w g cur _ e _ hg, hnc, hcm, ?_, ?_⟩⟩, ⟨rfl, rfl, rfl, by simp [World.setRow], fun k _ hk => setRow_other w g k _ (fun e => hk (by simp [Value.ownBlock, e]))⟩, .inl rfl, h.hbase⟩⟩
      · rw [List.length_append, hcl, List.length_drop, hxl]
        omega
      · simp only [List.size_toArray, List.length_append, hcl, List.take_zero, List.length_nil, List.length_drop, Array.length_toList]
        omega
      · rw [Nat.mul_one] at ht ⊢
        simp only [List.take_zero, List.nil_append, Nat.zero_add]
        rw [← ht]
        have hcurl : cur.toList.length = cd := by simpa using hcs
        rcases hq' with ⟨hnm, hm⟩ | ⟨hnm, hm⟩
        · rw [hm] at hcl ⊢
          rw [List.take_append, hcl, List.take_of_length_le (by omega : (ys.take n).length ≤ n)]
          congr 1
          rw [List.drop_take]
        · rw [hm] at hcl ⊢
          rw [List.take_append_of_le_length (by omega), List.take_of_length_le (by omega : (ys.take n).length ≤ n), List.drop_eq_nil_of_le (by rw [List.length_take]; omega), List.append_nil]

/-- 'copy(out, src)', out a row of the call's own. -/
theorem wpList_cpy {ops : Array Oper} {rest : List Oper} {o : Oper} {a : Act} {Q : Exit → Act → World → Prop} (hgd : o.guard = none) (d s : Operand) (dT sT : TypeId)
    (ho : o.op = .call { callee := .builtin .copy, args := #[d, s], argTypes := #[dT, sT] }) {Ad : Option Addr} {cd : Nat} (hd : a.eval d = .slice Ad n cd) (h : Own base e w0 w v0 (.slice Ad n cd) n xs)
    (hu : P.underlying dT = some (.slice e)) (hsz : (P.info? e).map (·.size) = some 1) (A : Option Addr) (m c : Nat) (ys : List Value) (hs : a.eval s = .slice A m c) (hsl : Sl w A m c ys) (h1 : ∀ u ∈ ys, u.oneCell' = true)
    (hgo : ∀ w', Own base e w0 w' v0 (.slice Ad n cd) n (ys.take n ++ xs.drop m) → wpList P ops Q rest (a.put o.dst (goInt (Nat.min m n))) w') : wpList P ops Q (o :: rest) a w := by
  refine wpList_plain hgd fun K hK => ?_
  obtain ⟨w', hr, h2⟩ := run_cpy (P := P) h dT sT o.type hu hsz A m c ys hsl h1
  unfold Oper.wp execOp
  simp only [ho, resolve, invoke, builtin, Sem.run_bind, Sem.run_pure, Result.andThen_ok, List.map_toArray, List.map_cons, List.map_nil, hs, hd, hr]
  exact hK _ _ (hgo w' h2)
end

/-- A row that began in the block that was made first: what lay before stands. -/
theorem Own.below_made {e : TypeId} {W w' : World} {o : Obj} {A : Option Addr} {n c m : Nat} {xs : List Value} {n0 c0 : Nat} (h : Own W.heap.size e (W.alloc o) w' (.slice (some ⟨W.heap.size, 0, none⟩) n0 c0) (.slice A n c) m xs) : Below W.heap.size W w' :=
  h.below ((Below.refl _ _).alloc (Nat.le_refl _) o) (by simp) (fun k hk => by simp [Value.ownBlock] at hk; omega)

/-- A row of one's own, as a slice that is read. -/
theorem Own.to_sl {base : Nat} {e : TypeId} {w0 w' : World} {v0 : Value} {A : Option Addr} {n c : Nat} {xs : List Value} (h : Own base e w0 w' v0 (.slice A n c) n xs) : Sl w' A n c xs := Sl.of_own h.own

/-- 's[k:]' as ONE value, whatever the capacity. -/
theorem run_cut {P : Program} (t : TypeId) (e : TypeId) (ht : P.underlying t = some (.slice (P.elem t))) (he : P.elem t = e) (hsz : (P.info? e).map (·.size) = some 1) (A : Option Addr) (n c : Nat) (kl : IntKind) (L : Int) (k : Nat) (hL : L = k) (hk : k ≤ n) (w : World) :
    (Instr.slice t (.slice A n c) (some (.int kl L)) none none).run P w = .ok (.slice (cutA A c k) (n - k) (c - k)) w := by
  subst hL he
  obtain ⟨i, hi, hs⟩ := Option.map_eq_some_iff.1 hsz
  rw [run_slice_l w t A n c ht kl k (by omega) (by omega)]
  simp [sizeOf, typeInfo, hi, hs, sliced, cutA]
/-- 's[k:m]'. -/
theorem run_cut2 {P : Program} (t : TypeId) (e : TypeId) (ht : P.underlying t = some (.slice (P.elem t))) (he : P.elem t = e) (hsz : (P.info? e).map (·.size) = some 1) (A : Option Addr) (n c : Nat) (kl kh : IntKind) (L M : Int) (k m : Nat) (hL : L = k) (hM : M = m) (hk : k ≤ m) (hm : m ≤ c) (w : World) :
    (Instr.slice t (.slice A n c) (some (.int kl L)) (some (.int kh M)) none).run P w = .ok (.slice (cutA A c k) (m - k) (c - k)) w := by
  subst hL hM he
  obtain ⟨i, hi, hs⟩ := Option.map_eq_some_iff.1 hsz
  rw [run_slice_lh w t A n c ht kl kh k m (by omega) (by omega) (by omega)]
  simp [sizeOf, typeInfo, hi, hs, sliced, cutA]

theorem cpy_full (ys : List Value) (n : Nat) (z : Value) (h : ys.length = n) : ys.take n ++ (List.replicate n z).drop n = ys := by
  rw [List.take_of_length_le (Nat.le_of_eq h), List.drop_eq_nil_of_le (by simp : (List.replicate n z).length ≤ n), List.append_nil]

/-- '[]T{}': a row of one's own without cells. -/
theorem Own.empty (w : World) (e : TypeId) :
    Own w.heap.size e (w.alloc (.cells #[] e)) (w.alloc (.cells #[] e)) (.slice (some ⟨w.heap.size, 0, none⟩) 0 0) (.slice (some ⟨w.heap.size, 0, none⟩) 0 0) 0 [] := Own.made w undef e 0 0 (Nat.le_refl _) (by omega)

/-- A string's iterator that was laid behind w0 is moved on: the row is as it was. -/
theorem own_ne_iter {base : Nat} {e : TypeId} {w : World} {v : Value} {n : Nat} {xs : List Value} {k p : Nat} {s : ByteArray} (h : w.ownsRow base e 1 v n xs) (hk : w.heap[k]? = some (.stringIter s p)) : some k ≠ v.ownBlock := by
  intro he
  rcases h.2 with ⟨rfl, _⟩ | ⟨g, cap, cur, rfl, _, hg, _⟩
  · simp [Value.ownBlock] at he
  · have : k = g := by simpa [Value.ownBlock] using he
    subst this
    rw [hk] at hg
    cases hg
theorem Own.iterAt {base : Nat} {e : TypeId} {w0 w : World} {v0 v : Value} {n : Nat} {xs : List Value} (h : Own base e w0 w v0 v n xs) {k p : Nat} {s : ByteArray} (hk : w.heap[k]? = some (.stringIter s p)) (hk0 : w0.heap.size ≤ k) (q : Nat) : Own base e w0 (w.iterAt k s q) v0 v n xs := by
  have hne := own_ne_iter h.own hk
  refine ⟨⟨h.own.1, ?_⟩, ⟨h.grown.os, h.grown.tape, h.grown.output, by rw [Lib.iterAt_size]; exact h.grown.size, fun i hi hr => by rw [Lib.iterAt_other _ _ _ _ _ (by omega)]; exact h.grown.block i hi hr⟩, h.lies, h.base_le⟩
  rcases h.own.2 with hn | ⟨g, cap, cur, rfl, hb, hg, rest⟩
  · exact .inl hn
  · exact .inr ⟨g, cap, cur, rfl, hb, by rw [Lib.iterAt_other _ _ _ _ _ (fun e => hne (by simp [Value.ownBlock, e]))]; exact hg, rest⟩
theorem Own.kept_iter {base : Nat} {e : TypeId} {w w' : World} {v v' : Value} {n m : Nat} {xs ys : List Value} (h : Own base e w w' v v' m ys) (h0 : w.ownsRow base e 1 v n xs) {k p : Nat} {s : ByteArray} (hk : w.heap[k]? = some (.stringIter s p)) : w'.heap[k]? = some (.stringIter s p) := by
  rw [h.grown.block k (Array.getElem?_eq_some_iff.1 hk).1 (own_ne_iter h0 hk)]; exact hk

/-- A's block is none of those that were there in world w. -/
def Fr (w : World) (A : Option Addr) : Prop := ∀ ad, A = some ad → w.heap.size ≤ ad.block
/-- '.slice A n c' is, in world w', a row that was made since world w (or nil), and reads as xs. -/
def Nw (e : TypeId) (w w' : World) (A : Option Addr) (n c : Nat) (xs : List Value) : Prop := w'.ownsRow w.heap.size e 1 (.slice A n c) n xs
theorem Nw.nil (e : TypeId) (w w' : World) : Nw e w w' none 0 0 [] := World.ownsRow_nil _ _ _ _
theorem Nw.mono {e : TypeId} {w w1 w' : World} {A : Option Addr} {n c : Nat} {xs : List Value} (h : Nw e w1 w' A n c xs) (hs : w.heap.size ≤ w1.heap.size) : Nw e w w' A n c xs := by
  refine ⟨h.1, ?_⟩
  rcases h.2 with hn | ⟨g, cap, cur, hv, hb, rest⟩
  · exact .inl hn
  · exact .inr ⟨g, cap, cur, hv, Nat.le_trans hs hb, rest⟩
theorem Nw.fr {e : TypeId} {w w' : World} {A : Option Addr} {n c : Nat} {xs : List Value} (h : Nw e w w' A n c xs) : Fr w A := by
  intro ad hA
  subst hA
  exact (World.ownsRow.lt h ad.block rfl).1
theorem Nw.sl {e : TypeId} {w w' : World} {A : Option Addr} {n c : Nat} {xs : List Value} (h : Nw e w w' A n c xs) : Sl w' A n c xs := Sl.of_own h
theorem Own.fresh {e : TypeId} {W w0 w' : World} {v0 : Value} {A : Option Addr} {n c : Nat} {xs : List Value} (h : Own W.heap.size e w0 w' v0 (.slice A n c) n xs) : Nw e W w' A n c xs := h.own
/-- Nothing old has turned: in the words of growth, at whatever row. -/
theorem only_of {a w : World} (h : Below a.heap.size a w) (row : Option Nat) : a.grownBy w row := ⟨h.os, h.tape, h.output, h.size, fun i hi _ => h.block i hi⟩
theorem Nw.below {e : TypeId} {w w' w2 : World} {A : Option Addr} {n c : Nat} {xs : List Value} (h : Nw e w w' A n c xs) (hb : Below w'.heap.size w' w2) : Nw e w w2 A n c xs :=
  World.ownsRow.kept h (only_of hb none) (by cases hv : Value.ownBlock (.slice A n c) <;> simp)
/-- A row of one's own over a call that leaves all that was. -/
theorem Own.over {base : Nat} {e : TypeId} {w0 w w' : World} {v0 v : Value} {n : Nat} {xs : List Value} (h : Own base e w0 w v0 v n xs) (hb : Below w.heap.size w w') : Own base e w0 w' v0 v n xs :=
  h.step ⟨h.own.kept (only_of hb none) (by cases hv : v.ownBlock <;> simp), only_of hb _, .inl rfl, h.hbase⟩
/-- A slice that is apart from a row that grew. -/
theorem Sl.grown {w w' : World} {A : Option Addr} {n c : Nat} {xs : List Value} {row : Option Nat} (h : Sl w A n c xs) (hg : w.grownBy w' row) (hne : ∀ ad, A = some ad → some ad.block ≠ row) : Sl w' A n c xs :=
  ⟨h.len, h.cap, h.big, fun hn => by
    obtain ⟨ad, e, hb, hc⟩ := h.cells hn
    exact ⟨ad, e, Nat.lt_of_lt_of_le hb hg.size, fun j u hu => (World.cell?_of_block (hg.block _ (by rw [add_block]; exact hb) (by rw [add_block]; exact hne ad e))).trans (hc j u hu)⟩⟩
/-- A slice in blocks that are new since W, and a row that was there then: the row's growth leaves the slice. -/
theorem Sl.apart {base : Nat} {e : TypeId} {W w w' : World} {v v' : Value} {A : Option Addr} {n c m k : Nat} {xs ys zs : List Value} (h : Sl w A n c xs) (hf : Fr W A) (hv : W.ownsRow base e 1 v k zs) (hg : Own base e w w' v v' m ys) : Sl w' A n c xs :=
  h.grown hg.grown fun ad ha hb => by
    have h1 := hf ad ha
    have h2 := (hv.lt ad.block hb.symm).2
    omega

/-- A slice of integers that came in: nil, or a row of 'cap' cells that hold the numbers zs, each fitting its kind. -/
def IsRow (k : IntKind) (w : World) (a : Option Addr) (len cap : Nat) (zs : List Int) : Prop :=
  (a = none ∧ len = 0 ∧ cap = 0 ∧ zs = []) ∨
  ∃ x, a = some x ∧ len ≤ cap ∧ cap ≤ maxLen ∧ zs.length = cap ∧ (∀ i, i < zs.length → w.cell? (x.add i) = some (.int k (zs.getD i 0))) ∧ ∀ n ∈ zs, (Lit.int k n).wf = true

theorem IsRow.cells {k : IntKind} {w : World} {a : Option Addr} {len cap : Nat} {zs : List Int} (h : IsRow k w a len cap zs) : Sl w a len cap ((zs.take len).map (Value.int k)) ∧ ∀ n ∈ zs.take len, (Lit.int k n).wf = true := by
  rcases h with ⟨rfl, rfl, rfl, rfl⟩ | ⟨x, rfl, hl, hm, hz, hc, hw⟩
  · exact ⟨Sl.nil w, by simp⟩
  · refine ⟨⟨by simp; omega, hl, by simpa [maxLen] using hm, fun hn => ⟨x, rfl, ?_, fun j u hu => ?_⟩⟩, fun n hn => hw n (List.mem_of_mem_take hn)⟩
    · have := World.block_lt_of_cell? w _ (hc 0 (by omega))
      rwa [add_block] at this
    · rw [List.getElem?_map, Option.map_eq_some_iff] at hu
      obtain ⟨z, hz', rfl⟩ := hu
      rw [List.getElem?_take] at hz'
      split at hz'
      · obtain ⟨hj, rfl⟩ := List.getElem?_eq_some_iff.1 hz'
        rw [hc j hj]
        simp [List.getD_eq_getElem?_getD, List.getElem?_eq_getElem hj]
      · cases hz'
theorem wf_u8 {n : Int} (h : (Lit.int .u8 n).wf = true) : 0 ≤ n ∧ n < 256 := by
  have := bounds_u8 h; omega
theorem wf_u64 {n : Int} (h : (Lit.int .u64 n).wf = true) : 0 ≤ n ∧ n < 18446744073709551616 := by
  have := bounds_u64 h; omega
theorem wf_i64 {n : Int} (h : (Lit.int .i64 n).wf = true) : -9223372036854775808 ≤ n ∧ n < 9223372036854775808 := by
  have := bounds_i64 h; omega
theorem IsRow.bytes {w : World} {a : Option Addr} {len cap : Nat} {zs : List Int} (h : IsRow .u8 w a len cap zs) : ∃ l : List UInt8, Sl w a len cap (l.map v8) := by
  obtain ⟨hs, hw⟩ := h.cells
  refine ⟨(zs.take len).map fun z => UInt8.ofNat z.toNat, ?_⟩
  have e : ((zs.take len).map fun z => UInt8.ofNat z.toNat).map v8 = (zs.take len).map (Value.int .u8) := by
    rw [List.map_map]
    refine List.map_congr_left fun z hz => ?_
    have hb := wf_u8 (hw z hz)
    simp only [Function.comp_apply, v8]
    congr 1
    have : (UInt8.ofNat z.toNat).toNat = z.toNat % 256 := by simp
    omega
  rw [e]; exact hs
theorem IsRow.nums {w : World} {a : Option Addr} {len cap : Nat} {zs : List Int} (h : IsRow .u64 w a len cap zs) : ∃ l : List UInt64, Sl w a len cap (l.map v64) := by
  obtain ⟨hs, hw⟩ := h.cells
  refine ⟨(zs.take len).map fun z => UInt64.ofNat z.toNat, ?_⟩
  have e : ((zs.take len).map fun z => UInt64.ofNat z.toNat).map v64 = (zs.take len).map (Value.int .u64) := by
    rw [List.map_map]
    refine List.map_congr_left fun z hz => ?_
    have hb := wf_u64 (hw z hz)
    simp only [Function.comp_apply, v64]
    congr 1
    have : (UInt64.ofNat z.toNat).toNat = z.toNat % 18446744073709551616 := by rw [UInt64.toNat_ofNat']
    omega
  rw [e]; exact hs

/-- An error's number beside what there is, or is not. -/
def errOf {α : Type} (r : Option α) (no : Int) : Int := if r.isSome then 0 else no

end Go.Wag
namespace Go.Wag

/-- n in k bytes; what bytes are. -/
def leb : Nat → Nat → List UInt8
  | 0, _ => []
  | k + 1, n => UInt8.ofNat n :: leb k (n / 256)
def lev : List UInt8 → Nat
  | [] => 0
  | c :: r => c.toNat + 256 * lev r
/-- A size; a letter's size; whether n fits. -/
def isSz (s : Int) : Bool := s == 1 || s == 2 || s == 4 || s == 8
def ltr (c : Int) : Nat := if c = 98 then 1 else if c = 104 then 2 else if c = 119 then 4 else if c = 113 then 8 else 0
def fitsB (n k : Nat) : Bool := decide (n < 256 ^ k)

theorem leb_length : ∀ (k n : Nat), (leb k n).length = k
  | 0, _ => rfl
  | k + 1, n => by simp [leb, leb_length k]

theorem leb_snoc : ∀ (k n : Nat), leb (k + 1) n = leb k n ++ [UInt8.ofNat (n / 256 ^ k)]
  | 0, n => by simp [leb]
  | k + 1, n => by
    show UInt8.ofNat n :: leb (k + 1) (n / 256) = (UInt8.ofNat n :: leb k (n / 256)) ++ _
    rw [leb_snoc k, Nat.div_div_eq_div_mul, Nat.pow_succ, Nat.mul_comm 256]
    rfl

theorem lev_lt : ∀ (l : List UInt8), lev l < 256 ^ l.length
  | [] => by simp [lev]
  | c :: r => by
    have h := lev_lt r
    have hc := c.toNat_lt
    simp only [lev, List.length_cons, Nat.pow_succ]
    omega

theorem lev_snoc : ∀ (l : List UInt8) (c : UInt8), lev (l ++ [c]) = lev l + 256 ^ l.length * c.toNat
  | [], c => by simp [lev]
  | d :: r, c => by
    simp only [List.cons_append, lev, lev_snoc r c, List.length_cons, Nat.pow_succ]
    rw [Nat.mul_add, Nat.add_assoc]
    congr 2
    rw [← Nat.mul_assoc, Nat.mul_comm 256]

theorem lev_leb : ∀ (k n : Nat), n < 256 ^ k → lev (leb k n) = n
  | 0, n, h => by simp at h; simp [leb, lev, h]
  | k + 1, n, h => by
    have hd : n / 256 < 256 ^ k := by
      rw [Nat.pow_succ] at h
      exact Nat.div_lt_of_lt_mul (by rw [Nat.mul_comm]; exact h)
    simp only [leb, lev, lev_leb k _ hd]
    have : (UInt8.ofNat n).toNat = n % 256 := by simp
    omega

theorem leb_lev : ∀ (l : List UInt8), leb l.length (lev l) = l
  | [] => rfl
  | c :: r => by
    have hc := c.toNat_lt
    have hd : (c.toNat + 256 * lev r) / 256 = lev r := by omega
    have hm : UInt8.ofNat (c.toNat + 256 * lev r) = c := by
      apply UInt8.toNat_inj.1
      simp
    simp only [List.length_cons, leb, lev, hd, hm, leb_lev r]

theorem isSz_cases {s : Int} (h : isSz s = true) : s = 1 ∨ s = 2 ∨ s = 4 ∨ s = 8 := by simpa [isSz, or_assoc] using h
theorem isSz_no {s : Int} (h : isSz s = false) : s ≠ 1 ∧ s ≠ 2 ∧ s ≠ 4 ∧ s ≠ 8 := by simpa [isSz, and_assoc] using h
theorem ltr_isSz {c : Int} (h : ltr c ≠ 0) : isSz (ltr c : Int) = true := by
  unfold ltr at *
  repeat' split at h
  all_goals simp_all [isSz]
theorem ltr_le (c : Int) : ltr c ≤ 8 := by unfold ltr; repeat' split
                                           all_goals omega
theorem ltr_high {c : Int} (h : 128 ≤ c) : ltr c = 0 := by
  unfold ltr
  rw [if_neg (by omega), if_neg (by omega), if_neg (by omega), if_neg (by omega)]

/-- What is put behind; what is taken. -/
def putF (l : List UInt8) (n : Nat) (s : Int) : Option (List UInt8) := if isSz s && fitsB n s.toNat then some (l ++ leb s.toNat n) else none
def takeF (l : List UInt8) (s : Int) : Option (Nat × List UInt8) := if isSz s && decide (s.toNat ≤ l.length) then some (lev (l.take s.toNat), l.drop s.toNat) else none

/-- A form's bytes; numbers by it; and back. -/
def fsum : List UInt8 → Option Nat
  | [] => some 0
  | c :: r => if ltr c.toNat = 0 then none else (fsum r).map (ltr c.toNat + ·)
def packF : List UInt8 → List UInt64 → Option (List UInt8)
  | [], [] => some []
  | c :: r, n :: ns => if ltr c.toNat = 0 ∨ fitsB n.toNat (ltr c.toNat) = false then none else (packF r ns).map (leb (ltr c.toNat) n.toNat ++ ·)
  | _, _ => none
def unpackF : List UInt8 → List UInt8 → Option (List UInt64)
  | [], b => if b = [] then some [] else none
  | c :: r, b => if ltr c.toNat = 0 ∨ b.length < ltr c.toNat then none else (unpackF r (b.drop (ltr c.toNat))).map (UInt64.ofNat (lev (b.take (ltr c.toNat))) :: ·)

theorem pow_256 (k : Nat) : (2 : Int) ^ (8 * k) = ((256 ^ k : Nat) : Int) := by
  rw [Int.pow_mul]
  simp

theorem or_step (a c k : Nat) (hk : k < 8) (ha : a < 256 ^ k) (hc : c < 256) :
    bits .or .u64 (a : Int) (IntKind.u64.wrap (IntKind.u64.wrap (c : Int) * 2 ^ (8 * k))) = ((a + 256 ^ k * c : Nat) : Int) := by
  have h7 : 256 ^ k ≤ 256 ^ 7 := Nat.pow_le_pow_right (by omega) (by omega)
  have h8 : (256 : Nat) ^ 7 = 72057594037927936 := by decide
  have hm : c * 256 ^ k ≤ 255 * 72057594037927936 := by
    rw [← h8]
    exact Nat.mul_le_mul (by omega) h7
  have e1 : IntKind.u64.wrap (c : Int) = (c : Int) := by rw [IntKind.wrap_u64]; omega
  rw [e1, pow_256, ← Int.natCast_mul, IntKind.wrap_u64]
  have e2 : ((c * 256 ^ k : Nat) : Int) % 18446744073709551616 = ((c * 256 ^ k : Nat) : Int) := by omega
  rw [e2, u64_or_nat _ _ (by omega) (by omega)]
  congr 1
  have hp : (256 : Nat) ^ k = 2 ^ (8 * k) := by rw [Nat.pow_mul]
  rw [hp] at ha ⊢
  rw [Nat.or_comm, Nat.mul_comm c, ← Nat.two_pow_add_eq_or_of_lt ha, Nat.add_comm]

theorem fits1 (n : Int) (k q : Nat) (h0 : 0 ≤ n) (hq : 256 ^ k = q) : (n / (q : Int) == 0) = fitsB n.toNat k := by
  obtain ⟨m, rfl⟩ := Int.eq_ofNat_of_zero_le h0
  have hp : 0 < q := by rw [← hq]; exact Nat.pow_pos (by omega)
  rw [Int.toNat_natCast, fitsB, hq, Bool.eq_iff_iff]
  simp only [beq_iff_eq, decide_eq_true_eq]
  rw [← Int.natCast_ediv]
  constructor
  · intro h
    have : m / q = 0 := by omega
    rcases Nat.div_eq_zero_iff.1 this with h | h <;> omega
  · intro h
    rw [Nat.div_eq_of_lt h]
    rfl

theorem byte_of (n : Int) (h0 : 0 ≤ n) : Value.int .u8 (IntKind.u8.wrap n) = v8 (UInt8.ofNat n.toNat) := by
  obtain ⟨m, rfl⟩ := Int.eq_ofNat_of_zero_le h0
  simp only [v8, Int.toNat_natCast, IntKind.wrap_u8]
  congr 1

theorem ret_int {k : IntKind} {a b : Int} (h : a = b) : Ending.returned (.int k a) = .returned (.int k b) := by rw [h]
theorem ret_bool {a b : Bool} (h : a = b) : Ending.returned (.bool a) = .returned (.bool b) := by rw [h]
theorem val_int {k : IntKind} {a b : Int} (h : a = b) : Value.int k a = .int k b := by rw [h]

/-- One byte more: the list and the number behind a round of 'appendNumber'. -/
theorem leb_round (xs : List Value) (k m : Nat) : xs ++ ((leb k m).map v8 ++ [Value.int .u8 ((m : Int) / 256 ^ k % 256)]) = xs ++ (leb (k + 1) m).map v8 := by
  rw [leb_snoc, List.map_append, List.map_cons, List.map_nil]
  congr 3
theorem div_round (k m : Nat) : (m : Int) / 256 ^ k / 256 = ((m / 256 ^ (k + 1) : Nat) : Int) := by
  rw [Nat.pow_succ, ← Nat.div_div_eq_div_mul]
  simp

/-- A round of the document's Take: one byte more, from behind. -/
theorem take_round (l : List UInt8) (z j : Nat) (hj : j + 1 ≤ z) (hz : z ≤ 8) (hl : j < l.length) :
    IntKind.u64.wrap (IntKind.u64.wrap ((lev ((l.take z).drop (j + 1)) : Int) * 256) + IntKind.u64.wrap (l[j].toNat : Int)) = (lev ((l.take z).drop j) : Int) := by
  have hj' : j < (l.take z).length := by rw [List.length_take]; omega
  have e : (l.take z).drop j = l[j] :: (l.take z).drop (j + 1) := by
    rw [List.drop_eq_getElem_cons hj', List.getElem_take]
  have hb := lev_lt ((l.take z).drop (j + 1))
  have hlen : ((l.take z).drop (j + 1)).length ≤ 7 := by rw [List.length_drop, List.length_take]; omega
  have h7 : 256 ^ ((l.take z).drop (j + 1)).length ≤ 256 ^ 7 := Nat.pow_le_pow_right (by omega) hlen
  have h8 : (256 : Nat) ^ 7 = 72057594037927936 := by decide
  have hc := l[j].toNat_lt
  rw [e, lev]
  simp only [IntKind.wrap_u64]
  omega

theorem fitsI (n q : Int) (k : Nat) (h0 : 0 ≤ n) (hq : ((256 ^ k : Nat) : Int) = q) : (n / q == 0) = fitsB n.toNat k := by
  rw [← hq]; exact fits1 n k _ h0 rfl
theorem leb_round2 (xs : List Value) (k : Nat) (n : Int) (h0 : 0 ≤ n) : xs ++ ((leb k n.toNat).map v8 ++ [Value.int .u8 (n / 2 ^ (8 * k) % 256)]) = xs ++ (leb (k + 1) n.toNat).map v8 := by
  obtain ⟨m, rfl⟩ := Int.eq_ofNat_of_zero_le h0
  rw [pow_256, Int.toNat_natCast, ← leb_round]
  simp

theorem fsum_snoc : ∀ (a : List UInt8) (c : UInt8) (t : Nat), fsum a = some t → fsum (a ++ [c]) = if ltr c.toNat = 0 then none else some (t + ltr c.toNat)
  | [], c, t, h => by
    obtain rfl : 0 = t := by simpa [fsum] using h
    simp [fsum]
  | d :: r, c, t, h => by
    unfold fsum at h
    split at h
    · cases h
    · rename_i hd
      obtain ⟨u, hu, rfl⟩ := Option.map_eq_some_iff.1 h
      have ih := fsum_snoc r c u hu
      simp only [List.cons_append, fsum, hd, if_false, ih]
      split
      · rfl
      · simp [Nat.add_assoc]
theorem fsum_none_append : ∀ (a b : List UInt8), fsum a = none → fsum (a ++ b) = none
  | [], b, h => by simp [fsum] at h
  | d :: r, b, h => by
    simp only [List.cons_append, fsum] at h ⊢
    split
    · rfl
    · rename_i hd
      rw [if_neg hd] at h
      have : fsum r = none := by simpa using h
      rw [fsum_none_append r b this]
      rfl
theorem fsum_le : ∀ (a : List UInt8) (t : Nat), fsum a = some t → t ≤ 8 * a.length
  | [], t, h => by
    obtain rfl : 0 = t := by simpa [fsum] using h
    omega
  | d :: r, t, h => by
    unfold fsum at h
    split at h
    · cases h
    · obtain ⟨u, hu, rfl⟩ := Option.map_eq_some_iff.1 h
      have ih := fsum_le r u hu
      have := ltr_le d.toNat
      simp only [List.length_cons]
      omega
theorem fsum_step {l : List UInt8} {k t : Nat} (hk : k < l.length) (h : fsum (l.take k) = some t) (hc : ltr l[k].toNat ≠ 0) : fsum (l.take (k + 1)) = some (t + ltr l[k].toNat) := by
  rw [List.take_succ_eq_append_getElem hk, fsum_snoc _ _ _ h, if_neg hc]
theorem fsum_stop {l : List UInt8} {k t : Nat} (hk : k < l.length) (h : fsum (l.take k) = some t) (hc : ltr l[k].toNat = 0) : fsum l = none := by
  have e : fsum (l.take (k + 1)) = none := by rw [List.take_succ_eq_append_getElem hk, fsum_snoc _ _ _ h, if_pos hc]
  have := fsum_none_append _ (l.drop (k + 1)) e
  rwa [List.take_append_drop] at this

end Go.Wag
namespace Go.Wag

abbrev W32 := BitVec 32
/-- A step (the chapter's Words), and so many. -/
def step1 (x : W32) : W32 := (x >>> 1) ^^^ (if x.getLsbD 0 then 0x82f63b78#32 else 0#32)
def steps : Nat → W32 → W32
  | 0, x => x
  | n + 1, x => steps n (step1 x)
/-- A byte as a number of 32 bits. -/
def b32 (c : UInt8) : W32 := BitVec.ofNat 32 c.toNat
/-- Bytes one by one, without turning. -/
def raw : W32 → List UInt8 → W32
  | x, [] => x
  | x, c :: r => raw (steps 8 (x ^^^ b32 c)) r
def ones : W32 := 0xffffffff#32
def moreF (s : W32) (l : List UInt8) : W32 := raw (s ^^^ ones) l ^^^ ones
def joinF (a b : W32) (n : Nat) : W32 := steps (8 * n) a ^^^ b

theorem step1_xor (x y : W32) : step1 (x ^^^ y) = step1 x ^^^ step1 y := by
  unfold step1
  rw [BitVec.ushiftRight_xor_distrib, BitVec.getLsbD_xor]
  cases x.getLsbD 0 <;> cases y.getLsbD 0
  · simp
  · simp [BitVec.xor_assoc]
  · simp only [Bool.xor_false, if_true, Bool.false_eq_true, if_false, BitVec.xor_zero]
    rw [BitVec.xor_assoc, BitVec.xor_assoc, BitVec.xor_comm (y >>> 1)]
  · simp only [Bool.xor_self, Bool.false_eq_true, if_false, if_true, BitVec.xor_zero]
    rw [BitVec.xor_assoc, ← BitVec.xor_assoc (0x82f63b78#32), BitVec.xor_comm (0x82f63b78#32), BitVec.xor_assoc, BitVec.xor_self, BitVec.xor_zero]
theorem step1_zero : step1 0#32 = 0#32 := by decide
theorem step1_inj0 {x : W32} (h : step1 x = 0#32) : x = 0#32 := by
  unfold step1 at h
  cases hx : x.getLsbD 0 with
  | true =>
    rw [hx, if_pos rfl] at h
    have h31 := congrArg (fun v : W32 => v.getLsbD 31) h
    simp at h31
  | false =>
    rw [hx] at h
    simp only [Bool.false_eq_true, if_false, BitVec.xor_zero] at h
    apply BitVec.eq_of_toNat_eq
    have h1 := congrArg BitVec.toNat h
    rw [BitVec.toNat_ushiftRight, Nat.shiftRight_eq_div_pow] at h1
    have h2 : x.toNat % 2 = 0 := by
      have : x.getLsbD 0 = decide (x.toNat % 2 = 1) := by simp [BitVec.getLsbD, Nat.testBit_zero]
      rw [this] at hx
      simp at hx
      omega
    simp at h1 ⊢
    omega

theorem steps_add : ∀ (m n : Nat) (x : W32), steps (m + n) x = steps n (steps m x)
  | 0, n, x => by simp [steps]
  | m + 1, n, x => by rw [Nat.add_right_comm]; exact steps_add m n (step1 x)
theorem steps_xor : ∀ (n : Nat) (x y : W32), steps n (x ^^^ y) = steps n x ^^^ steps n y
  | 0, _, _ => rfl
  | n + 1, x, y => by simp only [steps, step1_xor, steps_xor n]
theorem steps_zero : ∀ n : Nat, steps n 0#32 = 0#32
  | 0 => rfl
  | n + 1 => by simp only [steps, step1_zero, steps_zero n]
theorem steps_inj0 : ∀ (n : Nat) {x : W32}, steps n x = 0#32 → x = 0#32
  | 0, _, h => h
  | n + 1, _, h => step1_inj0 (steps_inj0 n h)
theorem xor_eq_zero {x y : W32} (h : x ^^^ y = 0#32) : x = y := by
  have : x ^^^ y ^^^ y = 0#32 ^^^ y := by rw [h]
  rwa [BitVec.xor_assoc, BitVec.xor_self, BitVec.xor_zero, BitVec.zero_xor] at this
theorem steps_inj {n : Nat} {x y : W32} (h : steps n x = steps n y) : x = y := by
  apply xor_eq_zero
  apply steps_inj0 n
  rw [steps_xor, h, BitVec.xor_self]

theorem b32_xor (c d : UInt8) : b32 (c ^^^ d) = b32 c ^^^ b32 d := by
  apply BitVec.eq_of_toNat_eq
  have hc := c.toNat_lt
  have hd := d.toNat_lt
  have hx : c.toNat ^^^ d.toNat < 2 ^ 8 := Nat.xor_lt_two_pow (by omega) (by omega)
  simp only [b32, BitVec.toNat_ofNat, BitVec.toNat_xor, UInt8.toNat_xor]
  rw [Nat.mod_eq_of_lt (by omega), Nat.mod_eq_of_lt (by omega), Nat.mod_eq_of_lt (by omega)]
theorem b32_zero : b32 0 = 0#32 := rfl
theorem b32_inj0 {c : UInt8} (h : b32 c = 0#32) : c = 0 := by
  apply UInt8.toNat_inj.1
  have hc := c.toNat_lt
  have := congrArg BitVec.toNat h
  simp only [b32, BitVec.toNat_ofNat] at this
  show c.toNat = 0
  omega

theorem raw_append : ∀ (a b : List UInt8) (x : W32), raw x (a ++ b) = raw (raw x a) b
  | [], _, _ => rfl
  | c :: r, b, x => by simp only [List.cons_append, raw, raw_append r b]
/-- Texts as long, changed by one another. -/
def xorL (a b : List UInt8) : List UInt8 := List.zipWith (· ^^^ ·) a b
theorem raw_xor : ∀ (a b : List UInt8) (x y : W32), a.length = b.length → raw (x ^^^ y) (xorL a b) = raw x a ^^^ raw y b
  | [], [], _, _, _ => rfl
  | [], _ :: _, _, _, h => by simp at h
  | _ :: _, [], _, _, h => by simp at h
  | c :: r, d :: s, x, y, h => by
    simp only [xorL, List.zipWith_cons_cons, raw, b32_xor]
    have e : x ^^^ y ^^^ (b32 c ^^^ b32 d) = (x ^^^ b32 c) ^^^ (y ^^^ b32 d) := by
      rw [BitVec.xor_assoc, BitVec.xor_assoc, ← BitVec.xor_assoc y, BitVec.xor_comm y, BitVec.xor_assoc]
    rw [e, steps_xor]
    exact raw_xor r s _ _ (by simpa using h)
/-- What a text does to a sum, and what it is by itself. -/
theorem raw_split : ∀ (l : List UInt8) (x : W32), raw x l = steps (8 * l.length) x ^^^ raw 0#32 l
  | [], x => by simp [raw, steps]
  | c :: r, x => by
    simp only [raw, List.length_cons]
    rw [raw_split r (steps 8 (x ^^^ b32 c)), raw_split r (steps 8 (0#32 ^^^ b32 c)), steps_xor 8 x, BitVec.zero_xor, steps_xor, Nat.mul_succ, Nat.add_comm, steps_add, BitVec.xor_assoc]
theorem moreF_append (s : W32) (a b : List UInt8) : moreF (moreF s a) b = moreF s (a ++ b) := by
  unfold moreF
  rw [raw_append, BitVec.xor_assoc, BitVec.xor_self, BitVec.xor_zero]
theorem moreF_nil (s : W32) : moreF s [] = s := by
  unfold moreF
  rw [raw, BitVec.xor_assoc, BitVec.xor_self, BitVec.xor_zero]
theorem joinF_sums (a b : List UInt8) : joinF (moreF 0#32 a) (moreF 0#32 b) b.length = moreF 0#32 (a ++ b) := by
  unfold joinF moreF
  rw [BitVec.zero_xor, raw_append, raw_split b (raw ones a), raw_split b ones, steps_xor]
  generalize steps (8 * b.length) (raw ones a) = p
  generalize steps (8 * b.length) ones = q
  generalize raw 0#32 b = r
  rw [BitVec.xor_assoc p q, ← BitVec.xor_assoc q, ← BitVec.xor_assoc q q, BitVec.xor_self, BitVec.zero_xor, BitVec.xor_assoc]
theorem joinF_assoc (x y z : W32) (m n : Nat) : joinF (joinF x y m) z n = joinF x (joinF y z n) (m + n) := by
  unfold joinF
  rw [steps_xor, Nat.mul_add, steps_add, BitVec.xor_assoc]

/-- A bit alone goes down a place a step. -/
theorem step1_shift (j : Nat) (hj : j < 31) : step1 (1#32 <<< (j + 1)) = 1#32 <<< j := by
  have : ∀ i : Fin 31, step1 (1#32 <<< (i.val + 1)) = 1#32 <<< i.val := by decide
  exact this ⟨j, hj⟩
theorem steps_shift : ∀ (j : Nat), j < 32 → steps j (1#32 <<< j) = 1#32
  | 0, _ => rfl
  | j + 1, h => by
    simp only [steps]
    rw [step1_shift j (by omega), steps_shift j (by omega)]

/-- Low bits that are 0 go out one by one. -/
theorem steps_low : ∀ (k : Nat) (v : W32), (∀ i, i < k → v.getLsbD i = false) → steps k v = v >>> k
  | 0, v, _ => by simp [steps]
  | k + 1, v, h => by
    have h0 : step1 v = v >>> 1 := by
      unfold step1
      rw [h 0 (by omega)]
      simp
    simp only [steps, h0]
    rw [steps_low k (v >>> 1) (fun i hi => by rw [BitVec.getLsbD_ushiftRight]; exact h _ (by omega)), ← BitVec.shiftRight_add, Nat.add_comm]
def lo8 (v : W32) : W32 := b32 (UInt8.ofNat v.toNat)
theorem lo8_bit (v : W32) (i : Nat) : (lo8 v).getLsbD i = (decide (i < 8) && v.getLsbD i) := by
  have e : (lo8 v).toNat = v.toNat % 2 ^ 8 := by
    simp only [lo8, b32, BitVec.toNat_ofNat, UInt8.toNat_ofNat']
    exact Nat.mod_eq_of_lt (by omega)
  simp only [BitVec.getLsbD, e, Nat.testBit_mod_two_pow]
theorem steps8_split (v : W32) : steps 8 v = steps 8 (lo8 v) ^^^ v >>> 8 := by
  have e : v = lo8 v ^^^ (v ^^^ lo8 v) := by
    rw [BitVec.xor_comm v, ← BitVec.xor_assoc, BitVec.xor_self, BitVec.zero_xor]
  have h : steps 8 (v ^^^ lo8 v) = v >>> 8 := by
    rw [steps_low 8 _ (fun i hi => by rw [BitVec.getLsbD_xor, lo8_bit]; simp [hi]), BitVec.ushiftRight_xor_distrib]
    have : lo8 v >>> 8 = 0#32 := by
      apply BitVec.eq_of_getLsbD_eq
      intro i hi
      rw [BitVec.getLsbD_ushiftRight, lo8_bit]
      have : ¬ 8 + i < 8 := by omega
      simp [this]
    rw [this, BitVec.xor_zero]
  conv => lhs; rw [e]
  rw [steps_xor, h]
/-- A number's own bytes, behind a sum. -/
theorem raw_leb : ∀ (k n : Nat) (x : W32), n < 256 ^ k → k ≤ 4 → raw x (leb k n) = steps (8 * k) (x ^^^ BitVec.ofNat 32 n)
  | 0, n, x, h, _ => by
    obtain rfl : n = 0 := by simpa using h
    simp [leb, raw, steps]
  | k + 1, n, x, h, hk => by
    have hp : 256 ^ (k + 1) ≤ 256 ^ 4 := Nat.pow_le_pow_right (by omega) hk
    have h4 : (256 : Nat) ^ 4 = 4294967296 := by decide
    have hd : n / 256 < 256 ^ k := by
      rw [Nat.pow_succ] at h
      exact Nat.div_lt_of_lt_mul (by rw [Nat.mul_comm]; exact h)
    have e1 : lo8 (BitVec.ofNat 32 n) = b32 (UInt8.ofNat n) := by
      unfold lo8
      congr 1
      rw [BitVec.toNat_ofNat, Nat.mod_eq_of_lt (by omega)]
    have e2 : (BitVec.ofNat 32 n) >>> 8 = BitVec.ofNat 32 (n / 256) := by
      apply BitVec.eq_of_toNat_eq
      rw [BitVec.toNat_ushiftRight, BitVec.toNat_ofNat, BitVec.toNat_ofNat, Nat.shiftRight_eq_div_pow, Nat.mod_eq_of_lt (by omega), Nat.mod_eq_of_lt (by omega)]
    simp only [leb, raw]
    rw [raw_leb k _ _ hd (by omega), Nat.mul_succ, Nat.add_comm, steps_add, steps_xor 8 x, steps_xor 8 x, steps8_split (BitVec.ofNat 32 n), e1, e2, ← BitVec.xor_assoc]

/-- A text with its sum; what opens. -/
def sealF (l : List UInt8) : List UInt8 := l ++ leb 4 (moreF 0#32 l).toNat
def openF (t : List UInt8) : Option (List UInt8) := if 4 ≤ t.length ∧ sealF (t.take (t.length - 4)) = t then some (t.take (t.length - 4)) else none
theorem w32_lt (x : W32) : x.toNat < 256 ^ 4 := by
  have h4 : (256 : Nat) ^ 4 = 4294967296 := by decide
  have := x.isLt
  omega
theorem raw_seal (l : List UInt8) : raw ones (sealF l) = steps 32 ones := by
  unfold sealF
  rw [raw_append, raw_leb 4 _ _ (w32_lt _) (Nat.le_refl _), BitVec.ofNat_toNat, BitVec.setWidth_eq]
  unfold moreF
  rw [BitVec.zero_xor, ← BitVec.xor_assoc, BitVec.xor_self, BitVec.zero_xor]
theorem seal_sum (l : List UInt8) : moreF 0#32 (sealF l) = 0x48674bc7#32 := by
  unfold moreF
  rw [BitVec.zero_xor, raw_seal]
  decide +kernel
theorem seal_iff {t : List UInt8} (h : 4 ≤ t.length) : sealF (t.take (t.length - 4)) = t ↔ raw ones t = steps 32 ones := by
  constructor
  · intro e
    rw [← e]; exact raw_seal _
  · intro e
    have ht : t = t.take (t.length - 4) ++ t.drop (t.length - 4) := (List.take_append_drop _ _).symm
    have hv : (t.drop (t.length - 4)).length = 4 := by rw [List.length_drop]; omega
    generalize t.take (t.length - 4) = u at *
    generalize t.drop (t.length - 4) = v at *
    have hl : v = leb 4 (lev v) := by rw [← hv]; exact (leb_lev v).symm
    have hlt : lev v < 256 ^ 4 := by rw [← hv]; exact lev_lt v
    rw [ht, raw_append, hl, raw_leb 4 _ _ hlt (Nat.le_refl _)] at e
    have e2 : raw ones u ^^^ BitVec.ofNat 32 (lev v) = ones := steps_inj e
    have e3 : moreF 0#32 u = BitVec.ofNat 32 (lev v) := by
      unfold moreF
      rw [BitVec.zero_xor]
      generalize raw ones u = r at e2
      rw [← e2, ← BitVec.xor_assoc, BitVec.xor_self, BitVec.zero_xor]
    unfold sealF
    have h4 : (256 : Nat) ^ 4 = 2 ^ 32 := by decide
    rw [e3, BitVec.toNat_ofNat, Nat.mod_eq_of_lt (by omega), ← hl]
    exact ht.symm
theorem sealF_length (l : List UInt8) : (sealF l).length = l.length + 4 := by simp [sealF, leb_length]
theorem open_seal (l : List UInt8) : openF (sealF l) = some l := by
  have e : (sealF l).take ((sealF l).length - 4) = l := by
    rw [sealF_length, Nat.add_sub_cancel, sealF, List.take_left]
  unfold openF
  rw [e, if_pos ⟨by rw [sealF_length]; omega, rfl⟩]
theorem open_iff {t : List UInt8} (h : 4 ≤ t.length) : (openF t).isSome = true ↔ raw ones t = steps 32 ones := by
  unfold openF
  rw [← seal_iff h]
  by_cases e : sealF (t.take (t.length - 4)) = t
  · rw [if_pos ⟨h, e⟩]; simp [e]
  · rw [if_neg (fun hh => e hh.2)]; simp [e]

/-- A byte that is changed. -/
theorem raw_set : ∀ (l : List UInt8) (i : Nat) (d : UInt8) (x : W32) (hi : i < l.length), raw x (l.set i (l[i] ^^^ d)) = raw x l ^^^ steps (8 * (l.length - i)) (b32 d)
  | [], _, _, _, h => by simp at h
  | c :: r, 0, d, x, _ => by
    simp only [List.set_cons_zero, List.getElem_cons_zero, raw, b32_xor, List.length_cons, Nat.sub_zero]
    rw [← BitVec.xor_assoc, steps_xor, raw_split r, raw_split r (steps 8 (x ^^^ b32 c)), steps_xor, Nat.mul_succ, Nat.add_comm (8 * r.length), steps_add, BitVec.xor_assoc, BitVec.xor_comm (steps (8 * r.length) (steps 8 (b32 d))), ← BitVec.xor_assoc]
  | c :: r, i + 1, d, x, h => by
    simp only [List.set_cons_succ, List.getElem_cons_succ, raw, List.length_cons, Nat.add_sub_add_right]
    exact raw_set r i d _ (by simpa using h)
theorem raw_set_ne {l : List UInt8} {i : Nat} {d : UInt8} {x : W32} (hi : i < l.length) (h : raw x (l.set i (l[i] ^^^ d)) = raw x l) : d = 0 := by
  rw [raw_set l i d x hi] at h
  apply b32_inj0
  apply steps_inj0 (8 * (l.length - i))
  have := congrArg (raw x l ^^^ ·) h
  simp only [← BitVec.xor_assoc, BitVec.xor_self, BitVec.zero_xor] at this
  exact this

/-- The lowest i bits of a number. -/
def lowb : Nat → W32 → W32
  | 0, _ => 0#32
  | i + 1, v => lowb i v ^^^ (if v.getLsbD i then 1#32 <<< i else 0#32)
theorem lowb_bit : ∀ (i : Nat) (v : W32) (k : Nat), i ≤ 32 → (lowb i v).getLsbD k = (decide (k < i) && v.getLsbD k)
  | 0, v, k, _ => by simp [lowb]
  | i + 1, v, k, h => by
    rw [lowb, BitVec.getLsbD_xor, lowb_bit i v k (by omega)]
    by_cases hk : k = i
    · subst hk
      cases hv : v.getLsbD k with
      | true => simp; omega
      | false => simp
    · have h1 : ((if v.getLsbD i then 1#32 <<< i else 0#32 : W32)).getLsbD k = false := by
        split
        · simp [BitVec.getLsbD_shiftLeft]
          intro _ h2
          omega
        · simp
      rw [h1, Bool.xor_false]
      congr 1
      rw [decide_eq_decide]
      omega
theorem lowb_all (v : W32) : lowb 32 v = v := by
  apply BitVec.eq_of_getLsbD_eq
  intro i hi
  rw [lowb_bit 32 v i (Nat.le_refl _)]
  simp [hi]

/-- Columns of a linear map, put together by a number's bits. -/
def colF (m : Nat → W32) : Nat → W32 → W32
  | 0, _ => 0#32
  | i + 1, v => colF m i v ^^^ (if v.getLsbD i then m i else 0#32)
theorem colF_low (k : Nat) : ∀ (i : Nat) (v : W32), colF (fun j => steps k (1#32 <<< j)) i v = steps k (lowb i v)
  | 0, _ => by simp [colF, lowb, steps_zero]
  | i + 1, v => by
    rw [colF, lowb, steps_xor, colF_low k i v]
    congr 1
    split
    · rfl
    · exact (steps_zero k).symm
theorem colF_all (k : Nat) (v : W32) : colF (fun j => steps k (1#32 <<< j)) 32 v = steps k v := by rw [colF_low, lowb_all]
/-- A bit of a text that is turned. -/
theorem b32_bit (j : Nat) (hj : j < 8) : b32 (1 <<< UInt8.ofNat j) = 1#32 <<< j := by
  have : ∀ i : Fin 8, b32 (1 <<< UInt8.ofNat i.val) = 1#32 <<< i.val := by decide
  exact this ⟨j, hj⟩
theorem steps_bit (M j : Nat) (hj : j < 32) (hM : j ≤ M) : steps M (1#32 <<< j) = steps (M - j) 1#32 := by
  have e : M = j + (M - j) := by omega
  conv => lhs; rw [e]
  rw [steps_add, steps_shift j hj]
theorem raw_flip (l : List UInt8) (k : Nat) (x : W32) (h : k / 8 < l.length) (u : UInt8) (hu : b32 u = 1#32 <<< (k % 8)) :
    raw x (l.set (k / 8) (l[k / 8] ^^^ u)) = raw x l ^^^ steps (8 * l.length - k) 1#32 := by
  rw [raw_set l (k / 8) u x h, hu, steps_bit _ (k % 8) (by omega) (by omega)]
  congr 2
  omega
/-- Bits that lie within thirty-two, turned one by one: the text behind i of them. -/
theorem raw_burst {s t : List UInt8} {from_ i : Nat} {v x : W32} (hi : i < 32) (hl : t.length = s.length) (hf : from_ + 32 ≤ 8 * s.length)
    (h : raw x t = raw x s ^^^ steps (8 * s.length - from_) (lowb i v)) (hk : (from_ + i) / 8 < t.length) (hv : v.getLsbD i = true) (u : UInt8) (hu : b32 u = 1#32 <<< ((from_ + i) % 8)) :
    raw x (t.set ((from_ + i) / 8) (t[(from_ + i) / 8] ^^^ u)) = raw x s ^^^ steps (8 * s.length - from_) (lowb (i + 1) v) := by
  rw [raw_flip t (from_ + i) x hk u hu, h, lowb, hv, if_pos rfl, steps_xor, steps_bit (8 * s.length - from_) i hi (by omega), hl, BitVec.xor_assoc]
  congr 3
  omega
theorem burst_opens {s t : List UInt8} {M : Nat} {v : W32} (hl : t.length = s.length) (h4 : 4 ≤ s.length) (hs : raw ones s = steps 32 ones) (h : raw ones t = raw ones s ^^^ steps M v) : (openF t).isSome = true ↔ v = 0#32 := by
  rw [open_iff (by omega), h, hs]
  constructor
  · intro e
    apply steps_inj0 M
    have := congrArg (steps 32 ones ^^^ ·) e
    simp only [← BitVec.xor_assoc, BitVec.xor_self, BitVec.zero_xor] at this
    exact this
  · rintro rfl
    rw [steps_zero, BitVec.xor_zero]
/-- Three texts as long. -/
theorem moreF_xor3 (a b c : List UInt8) (h1 : a.length = b.length) (h2 : b.length = c.length) : moreF 0#32 (xorL (xorL a b) c) = moreF 0#32 a ^^^ moreF 0#32 b ^^^ moreF 0#32 c := by
  have hl : (xorL a b).length = c.length := by simp [xorL]; omega
  unfold moreF
  rw [BitVec.zero_xor]
  have e : ones = (ones ^^^ ones) ^^^ ones := by decide
  conv => lhs; rw [e]
  rw [raw_xor _ _ _ _ hl, raw_xor _ _ _ _ h1, BitVec.xor_self]
  generalize raw ones a = p
  generalize raw ones b = q
  generalize raw ones c = r
  rw [BitVec.zero_xor, BitVec.xor_assoc p ones, ← BitVec.xor_assoc ones q, BitVec.xor_comm ones q, BitVec.xor_assoc q, BitVec.xor_self, BitVec.xor_zero, ← BitVec.xor_assoc (p ^^^ q)]

end Go.Wag
namespace Go.Wag

theorem fsum_letter : ∀ (l : List UInt8) (t : Nat), fsum l = some t → ∀ k (hk : k < l.length), ltr l[k].toNat ≠ 0
  | [], _, _, k, hk => by simp at hk
  | d :: r, t, h, k, hk => by
    unfold fsum at h
    split at h
    · cases h
    · rename_i hd
      obtain ⟨u, hu, rfl⟩ := Option.map_eq_some_iff.1 h
      cases k with
      | zero => exact hd
      | succ k => exact fsum_letter r u hu k (by simpa using hk)
theorem fsum_ascii {l : List UInt8} {t : Nat} (h : fsum l = some t) (k : Nat) (hk : k < l.length) : l[k].toNat < 128 := by
  rcases Nat.lt_or_ge l[k].toNat 128 with h1 | h1
  · exact h1
  · exact absurd (ltr_high (c := (l[k].toNat : Int)) (by omega)) (fsum_letter l t h k hk)
theorem fsum_append : ∀ (a b : List UInt8), fsum (a ++ b) = (fsum a).bind fun x => (fsum b).map (x + ·)
  | [], b => by simp [fsum]
  | d :: r, b => by
    simp only [List.cons_append, fsum]
    split
    · rfl
    · rw [fsum_append r b]
      cases fsum r <;> cases fsum b <;> simp [Nat.add_assoc]

theorem packF_len : ∀ (l : List UInt8) (ns : List UInt64), l.length ≠ ns.length → packF l ns = none
  | [], [], h => absurd rfl h
  | [], _ :: _, _ => rfl
  | _ :: _, [], _ => rfl
  | c :: r, n :: ns, h => by
    simp only [List.length_cons] at h
    simp only [packF]
    split
    · rfl
    · rw [packF_len r ns (by omega)]; rfl
theorem packF_none : ∀ (l : List UInt8) (ns : List UInt64), fsum l = none → packF l ns = none
  | [], _, h => by simp [fsum] at h
  | _ :: _, [], _ => rfl
  | c :: r, n :: ns, h => by
    simp only [packF, fsum] at h ⊢
    split
    · rfl
    · rename_i hc
      rw [if_neg (fun e => hc (.inl e))] at h
      rw [packF_none r ns (by simpa using h)]; rfl
theorem packF_snoc : ∀ (a : List UInt8) (ns : List UInt64) (bs : List UInt8) (c : UInt8) (x : UInt64), packF a ns = some bs →
    packF (a ++ [c]) (ns ++ [x]) = if ltr c.toNat = 0 ∨ fitsB x.toNat (ltr c.toNat) = false then none else some (bs ++ leb (ltr c.toNat) x.toNat)
  | [], [], bs, c, x, h => by
    obtain rfl : [] = bs := by simpa [packF] using h
    simp [packF]
  | [], _ :: _, _, _, _, h => by simp [packF] at h
  | _ :: _, [], _, _, _, h => by simp [packF] at h
  | d :: r, n :: ns, bs, c, x, h => by
    simp only [packF] at h
    split at h
    · cases h
    · rename_i hd
      obtain ⟨u, hu, rfl⟩ := Option.map_eq_some_iff.1 h
      simp only [List.cons_append, packF, hd, if_false, packF_snoc r ns u c x hu]
      split <;> simp [List.append_assoc]
theorem packF_none_append : ∀ (a : List UInt8) (ns : List UInt64) (b : List UInt8) (ms : List UInt64), a.length = ns.length → packF a ns = none → packF (a ++ b) (ns ++ ms) = none
  | [], [], _, _, _, h => by simp [packF] at h
  | [], _ :: _, _, _, hl, _ => by simp at hl
  | _ :: _, [], _, _, hl, _ => by simp at hl
  | c :: r, n :: ns, b, ms, hl, h => by
    simp only [List.cons_append, packF] at h ⊢
    split
    · rfl
    · rename_i hc
      rw [if_neg hc] at h
      rw [packF_none_append r ns b ms (by simpa using hl) (by simpa using h)]; rfl
theorem packF_step {l : List UInt8} {ns : List UInt64} {bs : List UInt8} {k : Nat} (hk : k < l.length) (hn : k < ns.length) (h : packF (l.take k) (ns.take k) = some bs) (hc : ltr l[k].toNat ≠ 0) (hf : fitsB ns[k].toNat (ltr l[k].toNat) = true) :
    packF (l.take (k + 1)) (ns.take (k + 1)) = some (bs ++ leb (ltr l[k].toNat) ns[k].toNat) := by
  rw [List.take_succ_eq_append_getElem hk, List.take_succ_eq_append_getElem hn, packF_snoc _ _ _ _ _ h, if_neg]
  rintro (e | e)
  · exact hc e
  · rw [hf] at e; cases e
theorem packF_stop {l : List UInt8} {ns : List UInt64} {bs : List UInt8} {k : Nat} (hk : k < l.length) (hn : k < ns.length) (h : packF (l.take k) (ns.take k) = some bs) (hf : ltr l[k].toNat = 0 ∨ fitsB ns[k].toNat (ltr l[k].toNat) = false) : packF l ns = none := by
  have e : packF (l.take (k + 1)) (ns.take (k + 1)) = none := by
    rw [List.take_succ_eq_append_getElem hk, List.take_succ_eq_append_getElem hn, packF_snoc _ _ _ _ _ h, if_pos hf]
  have := packF_none_append _ _ (l.drop (k + 1)) (ns.drop (k + 1)) (by simp only [List.length_take]; omega) e
  rwa [List.take_append_drop, List.take_append_drop] at this
theorem packF_le : ∀ (l : List UInt8) (ns : List UInt64) (bs : List UInt8), packF l ns = some bs → fsum l = some bs.length
  | [], [], bs, h => by
    obtain rfl : [] = bs := by simpa [packF] using h
    rfl
  | [], _ :: _, _, h => by simp [packF] at h
  | _ :: _, [], _, h => by simp [packF] at h
  | c :: r, n :: ns, bs, h => by
    simp only [packF] at h
    split at h
    · cases h
    · rename_i hd
      obtain ⟨u, hu, rfl⟩ := Option.map_eq_some_iff.1 h
      simp only [fsum, packF_le r ns u hu, if_neg (fun e => hd (.inl e)), Option.map_some, List.length_append, leb_length]

theorem unpackF_sum : ∀ (l b : List UInt8) (out : List UInt64), unpackF l b = some out → fsum l = some b.length
  | [], b, out, h => by
    simp only [unpackF] at h
    split at h
    · rename_i hb; subst hb; rfl
    · cases h
  | c :: r, b, out, h => by
    simp only [unpackF] at h
    split at h
    · cases h
    · rename_i hd
      obtain ⟨u, hu, rfl⟩ := Option.map_eq_some_iff.1 h
      simp only [fsum, unpackF_sum r _ u hu, if_neg (fun e => hd (.inl e)), Option.map_some, List.length_drop]
      congr 1
      have : ¬ b.length < ltr c.toNat := fun e => hd (.inr e)
      omega
theorem unpackF_none {l b : List UInt8} (h : fsum l ≠ some b.length) : unpackF l b = none := by
  cases e : unpackF l b with
  | none => rfl
  | some out => exact absurd (unpackF_sum l b out e) h
theorem unpackF_snoc : ∀ (a b1 b2 : List UInt8) (out : List UInt64) (c : UInt8), unpackF a b1 = some out → ltr c.toNat ≠ 0 → b2.length = ltr c.toNat → unpackF (a ++ [c]) (b1 ++ b2) = some (out ++ [UInt64.ofNat (lev b2)])
  | [], b1, b2, out, c, h, hc, hl => by
    simp only [unpackF] at h
    split at h
    · rename_i hb
      subst hb
      obtain rfl : [] = out := by simpa using h
      have hn : ¬ (ltr c.toNat = 0 ∨ b2.length < ltr c.toNat) := by
        rintro (e | e)
        · exact hc e
        · omega
      rw [List.nil_append, List.nil_append, unpackF, if_neg hn, List.drop_eq_nil_of_le (by omega), List.take_of_length_le (by omega)]
      rfl
    · cases h
  | d :: r, b1, b2, out, c, h, hc, hl => by
    simp only [unpackF] at h
    split at h
    · cases h
    · rename_i hd
      obtain ⟨u, hu, rfl⟩ := Option.map_eq_some_iff.1 h
      have hd1 : ¬ ltr d.toNat = 0 := fun e => hd (.inl e)
      have hd2 : ¬ b1.length < ltr d.toNat := fun e => hd (.inr e)
      have hn : ¬ (ltr d.toNat = 0 ∨ (b1 ++ b2).length < ltr d.toNat) := by
        rintro (e | e)
        · exact hd1 e
        · rw [List.length_append] at e; omega
      rw [List.cons_append, unpackF, if_neg hn, List.drop_append_of_le_length (by omega), List.take_append_of_le_length (by omega), unpackF_snoc r _ b2 u c hu hc hl]
      rfl
theorem unpackF_step {l b : List UInt8} {out : List UInt64} {k at_ : Nat} (hk : k < l.length) (h : unpackF (l.take k) (b.take at_) = some out) (hc : ltr l[k].toNat ≠ 0) (hl : at_ + ltr l[k].toNat ≤ b.length) :
    unpackF (l.take (k + 1)) (b.take (at_ + ltr l[k].toNat)) = some (out ++ [UInt64.ofNat (lev ((b.take (at_ + ltr l[k].toNat)).drop at_))]) := by
  have e : b.take (at_ + ltr l[k].toNat) = b.take at_ ++ (b.take (at_ + ltr l[k].toNat)).drop at_ := by
    have := (List.take_append_drop at_ (b.take (at_ + ltr l[k].toNat))).symm
    rwa [List.take_take, Nat.min_eq_left (by omega)] at this
  rw [List.take_succ_eq_append_getElem hk]
  conv => lhs; rw [e]
  exact unpackF_snoc _ _ _ _ _ h hc (by rw [List.length_drop, List.length_take]; omega)

theorem lev_u64 (b : List UInt8) (h : b.length ≤ 8) : ((UInt64.ofNat (lev b)).toNat : Int) = (lev b : Int) := by
  have h1 := lev_lt b
  have h2 : 256 ^ b.length ≤ 256 ^ 8 := Nat.pow_le_pow_right (by omega) h
  have h3 : (256 : Nat) ^ 8 = 18446744073709551616 := by decide
  have : (UInt64.ofNat (lev b)).toNat = lev b := by
    rw [UInt64.toNat_ofNat']
    exact Nat.mod_eq_of_lt (by show lev b < 18446744073709551616; omega)
  omega
theorem v64_lev (b : List UInt8) (h : b.length ≤ 8) : v64 (UInt64.ofNat (lev b)) = .int .u64 (lev b : Int) := by unfold v64; rw [lev_u64 b h]
theorem u64_lt (x : UInt64) : (x.toNat : Int) < 18446744073709551616 := by have := x.toNat_lt; omega

end Go.Wag
namespace Go.Wag
open Go.RowKit
set_option linter.unusedVariables false
set_option maxRecDepth 20000

/-- A record as data: Kind, Seq, Body. -/
structure Rp where
  k : Int
  s : Int
  l : List UInt8

theorem Rp.ext_of {a b : Rp} (h1 : a.k = b.k) (h2 : a.s = b.s) (h3 : a.l = b.l) : a = b := by
  cases a; cases b; simp_all

/-- Whether a record may be: Kind, Seq, how many bytes. -/
def rchk (k s n : Int) : Bool := decide (1 ≤ k ∧ k ≤ 5 ∧ 0 ≤ s ∧ s ≤ 4611686018427387903 ∧ n ≤ 4096)
def rchkE (k s n : Int) : Int := if rchk k s n then 0 else 50
def Rp.ok (r : Rp) : Bool := rchk r.k r.s r.l.length
theorem rchk_all {k s n : Int} (h : rchk k s n = true) : 1 ≤ k ∧ k ≤ 5 ∧ 0 ≤ s ∧ s ≤ 4611686018427387903 ∧ n ≤ 4096 := by
  simpa only [rchk, decide_eq_true_eq] using h
theorem Rp.all {r : Rp} (h : r.ok = true) : 1 ≤ r.k ∧ r.k ≤ 5 ∧ 0 ≤ r.s ∧ r.s ≤ 4611686018427387903 ∧ r.l.length ≤ 4096 := by
  have := rchk_all h
  omega

/-- A head with its mark; a record's bytes; its bytes, if it may be. -/
def headM (m k n s : Nat) : List UInt8 := leb 4 m ++ (leb 2 k ++ (leb 2 n ++ leb 8 s))
def headF (k n s : Nat) : List UInt8 := headM 1196184151 k n s
def recB (r : Rp) : List UInt8 := sealF (headF r.k.toNat r.l.length r.s.toNat ++ r.l)
def wrF (r : Rp) : Option (List UInt8) := if r.ok then some (recB r) else none
theorem wrF_yes {r : Rp} (h : r.ok = true) : wrF r = some (recB r) := by simp [wrF, h]
theorem wrF_no {r : Rp} (h : r.ok = false) : wrF r = none := by simp [wrF, h]
theorem headM_length (m k n s : Nat) : (headM m k n s).length = 16 := by simp [headM, leb_length]
theorem headF_length (k n s : Nat) : (headF k n s).length = 16 := headM_length _ _ _ _
theorem recB_length (r : Rp) : (recB r).length = r.l.length + 20 := by
  rw [recB, sealF_length, List.length_append, headF_length]
  omega

/-- The numbers of a head that bytes begin with. -/
def rM (b : List UInt8) : Nat := lev (b.take 4)
def rK (b : List UInt8) : Nat := lev ((b.drop 4).take 2)
def rN (b : List UInt8) : Nat := lev ((b.drop 6).take 2)
def rS (b : List UInt8) : Nat := lev ((b.drop 8).take 8)
theorem lev_max (l : List UInt8) (k : Nat) : lev (l.take k) < 256 ^ k :=
  Nat.lt_of_lt_of_le (lev_lt _) (Nat.pow_le_pow_right (by decide) (by rw [List.length_take]; omega))
theorem rM_lt (b : List UInt8) : rM b < 4294967296 := lev_max b 4
theorem rK_lt (b : List UInt8) : rK b < 65536 := lev_max _ 2
theorem rN_lt (b : List UInt8) : rN b < 65536 := lev_max _ 2
theorem rS_lt (b : List UInt8) : rS b < 18446744073709551616 := lev_max _ 8

theorem leb_take (l : List UInt8) (k : Nat) (h : k ≤ l.length) : leb k (lev (l.take k)) = l.take k := by
  have := leb_lev (l.take k)
  rwa [List.length_take, Nat.min_eq_left h] at this

/-- A head is what its numbers say. -/
theorem head_of {b : List UInt8} (h : 16 ≤ b.length) : headM (rM b) (rK b) (rN b) (rS b) = b.take 16 := by
  unfold headM rM rK rN rS
  rw [leb_take b 4 (by omega), leb_take _ 2 (by rw [List.length_drop]; omega), leb_take _ 2 (by rw [List.length_drop]; omega), leb_take _ 8 (by rw [List.length_drop]; omega)]
  have e1 : (b.drop 6).take 2 ++ (b.drop 8).take 8 = (b.drop 6).take 10 := by
    rw [show 10 = 2 + 8 from rfl, List.take_add, List.drop_drop]
  have e2 : (b.drop 4).take 2 ++ (b.drop 6).take 10 = (b.drop 4).take 12 := by
    rw [show 12 = 2 + 10 from rfl, List.take_add, List.drop_drop]
  rw [e1, e2, show 16 = 4 + 12 from rfl, List.take_add]

theorem lev_at {x a : List UInt8} {k n : Nat} (hn : n < 256 ^ k) : lev (((leb k n ++ x) ++ a).take k) = n := by
  rw [List.append_assoc, List.take_append_of_le_length (by rw [leb_length]; omega), List.take_of_length_le (by rw [leb_length]; omega), lev_leb _ _ hn]
theorem rM_head (m k n s : Nat) (t : List UInt8) (hm : m < 4294967296) : rM (headM m k n s ++ t) = m := lev_at (k := 4) hm
theorem drop_head (m k n s : Nat) (t : List UInt8) : (headM m k n s ++ t).drop 4 = (leb 2 k ++ (leb 2 n ++ leb 8 s)) ++ t := by
  unfold headM
  rw [List.append_assoc, List.drop_append_of_le_length (by rw [leb_length]; omega), List.drop_eq_nil_of_le (by rw [leb_length]; omega), List.nil_append]
theorem rK_head (m k n s : Nat) (t : List UInt8) (h : k < 65536) : rK (headM m k n s ++ t) = k := by
  unfold rK
  rw [drop_head]
  exact lev_at (k := 2) h
theorem drop_head6 (m k n s : Nat) (t : List UInt8) : (headM m k n s ++ t).drop 6 = (leb 2 n ++ leb 8 s) ++ t := by
  rw [show 6 = 4 + 2 from rfl, ← List.drop_drop, drop_head, List.append_assoc, List.drop_append_of_le_length (by rw [leb_length]; omega), List.drop_eq_nil_of_le (by rw [leb_length]; omega), List.nil_append]
theorem rN_head (m k n s : Nat) (t : List UInt8) (h : n < 65536) : rN (headM m k n s ++ t) = n := by
  unfold rN
  rw [drop_head6]
  exact lev_at (k := 2) h
theorem rS_head (m k n s : Nat) (t : List UInt8) (h : s < 18446744073709551616) : rS (headM m k n s ++ t) = s := by
  unfold rS
  rw [show 8 = 6 + 2 from rfl, ← List.drop_drop, drop_head6, List.append_assoc, List.drop_append_of_le_length (by rw [leb_length]; omega), List.drop_eq_nil_of_le (by rw [leb_length]; omega), List.nil_append]
  rw [List.take_append_of_le_length (by rw [leb_length]; omega), List.take_of_length_le (by rw [leb_length]; omega), lev_leb _ _ h]

/-- The form 'whhq' of four numbers, and back. -/
theorem pack_head {k s : Int} {n : Nat} (h : rchk k s n = true) : packF [119, 104, 104, 113] [1196184151, UInt64.ofNat k.toNat, UInt64.ofNat n, UInt64.ofNat s.toNat] = some (headF k.toNat n s.toNat) := by
  have h := rchk_all h
  have e1 : (UInt64.ofNat k.toNat).toNat = k.toNat := by rw [UInt64.toNat_ofNat']; omega
  have e2 : (UInt64.ofNat n).toNat = n := by rw [UInt64.toNat_ofNat']; omega
  have e3 : (UInt64.ofNat s.toNat).toNat = s.toNat := by rw [UInt64.toNat_ofNat']; omega
  have e0 : (1196184151 : UInt64).toNat = 1196184151 := rfl
  have l1 : ltr ((119 : UInt8).toNat : Int) = 4 := by decide
  have l2 : ltr ((104 : UInt8).toNat : Int) = 2 := by decide
  have l3 : ltr ((113 : UInt8).toNat : Int) = 8 := by decide
  simp only [packF, l1, l2, l3, e0, e1, e2, e3]
  rw [if_neg (by simp [fitsB]), if_neg (by simp [fitsB]; omega), if_neg (by simp [fitsB]; omega), if_neg (by simp [fitsB]; omega)]
  simp [headF, headM]
theorem unpack_head {b : List UInt8} (h : 16 ≤ b.length) : unpackF [119, 104, 104, 113] (b.take 16) = some [UInt64.ofNat (rM b), UInt64.ofNat (rK b), UInt64.ofNat (rN b), UInt64.ofNat (rS b)] := by
  have l1 : ltr ((119 : UInt8).toNat : Int) = 4 := by decide
  have l2 : ltr ((104 : UInt8).toNat : Int) = 2 := by decide
  have l3 : ltr ((113 : UInt8).toNat : Int) = 8 := by decide
  simp only [unpackF, l1, l2, l3, List.length_drop, List.length_take, List.drop_drop]
  rw [if_neg (by omega), if_neg (by omega), if_neg (by omega), if_neg (by omega), if_pos (List.drop_eq_nil_of_le (by rw [List.length_take]; omega))]
  simp only [Option.map_some, Option.some.injEq, List.cons.injEq, and_true]
  unfold rM rK rN rS
  simp only [List.drop_take, List.take_take]
  exact ⟨rfl, rfl, rfl, rfl⟩
theorem nat64 {n : Nat} (h : n < 18446744073709551616) : ((UInt64.ofNat n).toNat : Int) = (n : Int) := by rw [UInt64.toNat_ofNat']; omega

/-- The record that bytes may begin with; the one that they do. -/
def cand (b : List UInt8) : Rp := ⟨(rK b : Int), (rS b : Int), (b.drop 16).take (rN b)⟩
def rdF (b : List UInt8) : Option (Rp × Nat) := if rN b + 20 ≤ b.length ∧ (cand b).ok = true ∧ recB (cand b) = b.take (rN b + 20) then some (cand b, rN b + 20) else none
theorem cand_len {b : List UInt8} (h : rN b + 20 ≤ b.length) : (cand b).l.length = rN b := by
  show ((b.drop 16).take (rN b)).length = _
  rw [List.length_take, List.length_drop]
  omega
theorem cand_ok {b : List UInt8} (h : rN b + 20 ≤ b.length) : (cand b).ok = rchk (rK b) (rS b) (rN b) := by
  unfold Rp.ok
  rw [cand_len h]
  rfl
theorem rd_short {b : List UInt8} (h : ¬ rN b + 20 ≤ b.length) : rdF b = none := by
  unfold rdF
  rw [if_neg (fun hh => h hh.1)]
theorem rd_short20 {b : List UInt8} (h : b.length < 20) : rdF b = none := rd_short (by omega)
theorem rd_bad {b : List UInt8} (hl : rN b + 20 ≤ b.length) (h : rchk (rK b) (rS b) (rN b) = false) : rdF b = none := by
  unfold rdF
  rw [if_neg]
  rintro ⟨_, h2, _⟩
  rw [cand_ok hl, h] at h2
  cases h2
theorem rd_big {b : List UInt8} (h : 4096 < rN b) : rdF b = none := by
  by_cases hl : rN b + 20 ≤ b.length
  · refine rd_bad hl ?_
    cases hc : rchk (rK b) (rS b) (rN b)
    · rfl
    · have := rchk_all hc
      omega
  · exact rd_short hl
theorem rd_mark {b : List UInt8} (h : rM b ≠ 1196184151) : rdF b = none := by
  unfold rdF
  rw [if_neg]
  rintro ⟨h1, _, h3⟩
  apply h
  have e := congrArg rM h3
  unfold recB sealF at e
  rw [List.append_assoc] at e
  unfold headF at e
  rw [rM_head _ _ _ _ _ (by decide)] at e
  rw [e]
  unfold rM
  rw [List.take_take, Nat.min_eq_left (by omega)]
theorem rd_sum {b : List UInt8} (h : openF (b.take (rN b + 20)) = none) : rdF b = none := by
  unfold rdF
  rw [if_neg]
  rintro ⟨_, _, h3⟩
  rw [← h3] at h
  unfold recB at h
  rw [open_seal] at h
  cases h
theorem cut_head {b : List UInt8} (h : rN b + 20 ≤ b.length) : b.take (rN b + 16) = b.take 16 ++ (cand b).l := by
  show _ = _ ++ (b.drop 16).take (rN b)
  rw [Nat.add_comm, List.take_add]
theorem recB_cand {b : List UInt8} (hl : rN b + 20 ≤ b.length) (hm : rM b = 1196184151) : recB (cand b) = sealF (b.take (rN b + 16)) := by
  unfold recB
  rw [cand_len hl, cut_head hl, ← head_of (by omega), hm]
  rfl
theorem rd_yes {b t : List UInt8} (hl : rN b + 20 ≤ b.length) (hm : rM b = 1196184151) (ho : openF (b.take (rN b + 20)) = some t) (hc : rchk (rK b) (rS b) (rN b) = true) :
    rdF b = some (cand b, rN b + 20) ∧ t.drop 16 = (cand b).l ∧ t.length = rN b + 16 := by
  have hlen : (b.take (rN b + 20)).length = rN b + 20 := by rw [List.length_take]; omega
  unfold openF at ho
  split at ho
  · rename_i hh
    rw [hlen, show rN b + 20 - 4 = rN b + 16 by omega, List.take_take, Nat.min_eq_left (by omega)] at ho hh
    cases ho
    refine ⟨?_, ?_, by rw [List.length_take]; omega⟩
    · unfold rdF
      rw [if_pos ⟨hl, by rw [cand_ok hl, hc], by rw [recB_cand hl hm]; exact hh.2⟩]
    · rw [cut_head hl, List.drop_append_of_le_length (by rw [List.length_take]; omega), List.drop_eq_nil_of_le (by rw [List.length_take]; omega), List.nil_append]
  · cases ho
/-- The document's test: the record is written so. -/
theorem rd_same {b : List UInt8} (hl : rN b + 20 ≤ b.length) (hc : rchk (rK b) (rS b) (rN b) = true) (h : recB (cand b) = b.take (rN b + 20)) : rdF b = some (cand b, rN b + 20) := by
  unfold rdF
  rw [if_pos ⟨hl, by rw [cand_ok hl, hc], h⟩]
theorem rd_other {b : List UInt8} (h : recB (cand b) ≠ b.take (rN b + 20)) : rdF b = none := by
  unfold rdF
  rw [if_neg (fun hh => h hh.2.2)]

/-- What is read was written so. -/
theorem rd_some {b : List UInt8} {r : Rp} {n : Nat} (h : rdF b = some (r, n)) : r.ok = true ∧ n = r.l.length + 20 ∧ n ≤ b.length ∧ recB r = b.take n ∧ r = cand b ∧ n = rN b + 20 := by
  unfold rdF at h
  split at h
  · rename_i hh
    cases h
    exact ⟨hh.2.1, by rw [cand_len hh.1], hh.1, hh.2.2, rfl, rfl⟩
  · cases h
theorem rec_form (r : Rp) (t : List UInt8) : ∃ u, recB r ++ t = headM 1196184151 r.k.toNat r.l.length r.s.toNat ++ (r.l ++ u) := by
  refine ⟨leb 4 (moreF 0#32 (headF r.k.toNat r.l.length r.s.toNat ++ r.l)).toNat ++ t, ?_⟩
  unfold recB sealF
  simp only [List.append_assoc]
  rfl
theorem rN_rec {r : Rp} (h : r.ok = true) (t : List UInt8) : rN (recB r ++ t) = r.l.length := by
  obtain ⟨u, e⟩ := rec_form r t
  have := Rp.all h
  rw [e, rN_head _ _ _ _ _ (by omega)]
theorem cand_rec {r : Rp} (h : r.ok = true) (t : List UInt8) : cand (recB r ++ t) = r := by
  obtain ⟨u, e⟩ := rec_form r t
  have ha := Rp.all h
  have h1 := rN_rec h t
  unfold cand
  rw [h1, e]
  refine Rp.ext_of ?_ ?_ ?_
  · show ((rK _ : Nat) : Int) = _
    rw [rK_head _ _ _ _ _ (by omega)]
    omega
  · show ((rS _ : Nat) : Int) = _
    rw [rS_head _ _ _ _ _ (by omega)]
    omega
  · show List.take r.l.length (List.drop 16 _) = r.l
    have : (headM 1196184151 r.k.toNat r.l.length r.s.toNat).length = 16 := headM_length _ _ _ _
    rw [List.drop_append_of_le_length (by omega), List.drop_eq_nil_of_le (by omega), List.nil_append, List.take_append_of_le_length (Nat.le_refl _), List.take_length]
/-- A record is read as it was written, whatever stands behind. -/
theorem rd_rec {r : Rp} (h : r.ok = true) (t : List UInt8) : rdF (recB r ++ t) = some (r, (recB r).length) := by
  have h1 := rN_rec h t
  have h2 := cand_rec h t
  have h3 := recB_length r
  unfold rdF
  rw [h1, h2, h3, if_pos ⟨by rw [List.length_append, h3]; omega, h, by rw [← h3, List.take_left]⟩]
theorem rd_rec0 {r : Rp} (h : r.ok = true) : rdF (recB r) = some (r, (recB r).length) := by
  have := rd_rec h []
  rwa [List.append_nil] at this
theorem rN_take {b : List UInt8} {m : Nat} (h : 20 ≤ m) : rN (b.take m) = rN b := by
  unfold rN
  rw [List.drop_take, List.take_take, Nat.min_eq_left (by omega)]
/-- Fewer of its bytes are none. -/
theorem rd_cut {r : Rp} (h : r.ok = true) {m : Nat} (hm : m < (recB r).length) : rdF ((recB r).take m) = none := by
  by_cases h20 : m < 20
  · exact rd_short20 (by rw [List.length_take]; omega)
  · refine rd_short ?_
    have h1 := rN_rec h []
    rw [List.append_nil] at h1
    have h2 := recB_length r
    rw [rN_take (by omega), h1, List.length_take]
    omega
theorem rec_inj {a b : Rp} (ha : a.ok = true) (hb : b.ok = true) (h : recB a = recB b) : a = b := by
  have h1 := rd_rec0 ha
  rw [h, rd_rec0 hb] at h1
  exact (congrArg Prod.fst (Option.some.inj h1)).symm
theorem rec_apart {a b : Rp} (ha : a.ok = true) (hb : b.ok = true) {n : Nat} (hn : n = min (recB a).length (recB b).length) (h : (recB a).take n = (recB b).take n) : a = b := by
  have la := recB_length a
  have lb := recB_length b
  have h1 := rN_rec ha []
  have h2 := rN_rec hb []
  rw [List.append_nil] at h1 h2
  have h3 : rN ((recB a).take n) = rN ((recB b).take n) := by rw [h]
  rw [rN_take (by omega), rN_take (by omega), h1, h2] at h3
  refine rec_inj ha hb ?_
  rwa [List.take_of_length_le (by omega), List.take_of_length_le (by omega)] at h

/-- Records one behind the other, with their places, from a place on. -/
def scF (b : List UInt8) (p : Nat) : List (Rp × Nat) :=
  match h : rdF (b.drop p) with
  | none => []
  | some x => (x.1, p) :: scF b (p + x.2)
termination_by b.length - p
decreasing_by
  obtain ⟨r, n⟩ := x
  obtain ⟨_, h2, h3, _⟩ := rd_some h
  rw [List.length_drop] at h3
  show b.length - (p + n) < b.length - p
  omega
theorem sc_none {b : List UInt8} {p : Nat} (h : rdF (b.drop p) = none) : scF b p = [] := by
  rw [scF]
  split
  · rfl
  · rename_i x hx
    rw [h] at hx
    cases hx
theorem sc_some {b : List UInt8} {p : Nat} {r : Rp} {n : Nat} (h : rdF (b.drop p) = some (r, n)) : scF b p = (r, p) :: scF b (p + n) := by
  rw [scF]
  split
  · rename_i hx
    rw [h] at hx
    cases hx
  · rename_i x hx
    rw [h] at hx
    cases hx
    rfl
/-- Where records stand. -/
def laidAt : Nat → List Rp → List (Rp × Nat)
  | _, [] => []
  | p, r :: rs => (r, p) :: laidAt (p + (recB r).length) rs
def allB (rs : List Rp) : List UInt8 := (rs.map recB).flatten
theorem sc_all : ∀ (rs : List Rp), (∀ r ∈ rs, r.ok = true) → ∀ (h t : List UInt8), rdF t = none → scF (h ++ (allB rs ++ t)) h.length = laidAt h.length rs
  | [], _, h, t, ht => sc_none (by simpa [allB] using ht)
  | r :: rs, hr, h, t, ht => by
    have e : allB (r :: rs) ++ t = recB r ++ (allB rs ++ t) := by simp [allB]
    have h1 : rdF ((h ++ (allB (r :: rs) ++ t)).drop h.length) = some (r, (recB r).length) := by
      rw [List.drop_left, e]
      exact rd_rec (hr r (by simp)) _
    rw [sc_some h1]
    have h2 := sc_all rs (fun x hx => hr x (by simp [hx])) (h ++ recB r) t ht
    rw [List.length_append] at h2
    rw [e, ← List.append_assoc, h2]
    rfl
theorem laid_snoc : ∀ (rs : List Rp) (p : Nat) (r : Rp), laidAt p (rs ++ [r]) = laidAt p rs ++ [(r, p + (allB rs).length)]
  | [], p, r => by simp [laidAt, allB]
  | x :: rs, p, r => by
    have h := laid_snoc rs (p + (recB x).length) r
    simp only [List.cons_append, laidAt, h]
    simp [allB, Nat.add_assoc]
theorem allB_snoc (rs : List Rp) (r : Rp) : allB (rs ++ [r]) = allB rs ++ recB r := by simp [allB]
theorem laid_fst : ∀ (rs : List Rp) (p : Nat), (laidAt p rs).map Prod.fst = rs
  | [], _ => rfl
  | x :: rs, p => by simp [laidAt, laid_fst rs]
theorem laid_length (rs : List Rp) (p : Nat) : (laidAt p rs).length = rs.length := by
  have := congrArg List.length (laid_fst rs p)
  simpa using this
theorem rd_nil : rdF [] = none := rd_short20 (by decide)
theorem sc_recs {rs : List Rp} (h : ∀ r ∈ rs, r.ok = true) : scF (allB rs) 0 = laidAt 0 rs := by
  have := sc_all rs h [] [] rd_nil
  simpa using this
theorem sc_recs_cut {rs : List Rp} {r : Rp} (h : ∀ x ∈ rs, x.ok = true) (hr : r.ok = true) {m : Nat} (hm : m < (recB r).length) : scF (allB rs ++ (recB r).take m) 0 = laidAt 0 rs := by
  have := sc_all rs h [] _ (rd_cut hr hm)
  simpa using this
end Go.Wag
namespace Go.Wag
open Go.RowKit

/-- Block k holds the cells vs, and none of them is frozen. -/
def Blk (w : World) (k : Nat) (vs : Array Value) (t : TypeId) : Prop := w.heap[k]? = some (.cells vs t)

variable {w w' : World} {k : Nat} {vs : Array Value} {t : TypeId}
theorem Blk.lt (h : Blk w k vs t) : k < w.heap.size := (Array.getElem?_eq_some_iff.1 h).1
theorem Blk.cell (h : Blk w k vs t) (i : Nat) : w.cell? ⟨k, i, none⟩ = vs[i]? := by
  unfold World.cell?
  rw [show w.heap[k]? = _ from h]
  rfl
theorem Blk.frozen (h : Blk w k vs t) (i : Nat) : w.frozen? ⟨k, i, none⟩ = false := by
  unfold World.frozen?
  rw [show w.heap[k]? = _ from h]
  simp
theorem Blk.same (h : Blk w k vs t) (hb : w'.heap[k]? = w.heap[k]?) : Blk w' k vs t := hb.trans h
theorem Blk.below {B : Nat} (h : Blk w k vs t) (hb : Below B w w') (hB : k < B) : Blk w' k vs t := h.same (hb.block k hB)
theorem Blk.under (h : Blk w k vs t) (hb : Below w.heap.size w w') : Blk w' k vs t := h.below hb h.lt
theorem Blk.alloc (h : Blk w k vs t) (o : Obj) : Blk (w.alloc o) k vs t := h.same (Below.heap_alloc _ _ _ h.lt)
theorem Blk.drew (h : Blk w k vs t) : Blk w.drew k vs t := h
theorem Blk.new (w : World) (vs : Array Value) (t : TypeId) : Blk (w.alloc (.cells vs t)) w.heap.size vs t := by
  show (w.heap.push _)[_]? = _
  simp
theorem Blk.far (h : Blk w k vs t) {a : Addr} (hk : k ≠ a.block) (u : Value) : Blk (w.setCell a u) k vs t := h.same (Below.heap_setCell _ _ _ _ hk)
theorem Blk.set (h : Blk w k vs t) (i : Nat) (u : Value) : Blk (w.setCell ⟨k, i, none⟩ u) k (vs.setIfInBounds i u) t := by
  unfold Blk World.setCell
  simp only [Array.getElem?_modify]
  rw [if_pos trivial, show w.heap[k]? = _ from h]
  rfl
theorem Blk.own {base : Nat} {e : TypeId} {v v' : Value} {m : Nat} {ys : List Value} (h : Blk w k vs t) (hg : Own base e w w' v v' m ys) (hv : ∀ b, v.ownBlock = some b → b ≠ k) : Blk w' k vs t :=
  h.same (hg.grown.block k h.lt (fun e => hv k e.symm rfl))
theorem Blk.ownAt {base : Nat} {e : TypeId} {v' : Value} {m g n c : Nat} {ys : List Value} (h : Blk w k vs t) (hg : Own base e w w' (.slice (some ⟨g, 0, none⟩) n c) v' m ys) (hne : g ≠ k) : Blk w' k vs t :=
  h.own hg (fun b hb => by
    have hb' : some g = some b := hb
    cases hb'
    exact hne)
theorem Own.belowAt {base : Nat} {e : TypeId} {W w0 w : World} {v : Value} {B g n c m : Nat} {xs : List Value} (h : Own base e w0 w (.slice (some ⟨g, 0, none⟩) n c) v m xs) (hb : Below B W w0) (hB : B ≤ w0.heap.size) (hg : B ≤ g) : Below B W w :=
  h.below hb hB (fun k hk => by
    have hk' : some g = some k := hk
    cases hk'
    exact hg)
/-- A store turns one block. -/
theorem grown_set (w : World) (a : Addr) (u : Value) : w.grownBy (w.setCell a u) (some a.block) :=
  ⟨rfl, rfl, rfl, by simp [World.setCell], fun i _ hne => Below.heap_setCell _ _ _ _ (fun h => hne (by rw [h]))⟩
theorem Nw.far {e : TypeId} {w w' : World} {A : Option Addr} {n c : Nat} {xs : List Value} (h : Nw e w w' A n c xs) {a : Addr} (ha : ∀ ad, A = some ad → ad.block ≠ a.block) (u : Value) : Nw e w (w'.setCell a u) A n c xs := by
  refine World.ownsRow.kept h (grown_set w' a u) ?_
  cases A with
  | none => exact .inl rfl
  | some ad => exact .inr (fun hh => ha ad rfl (Option.some.inj hh))
theorem Sl.far {w' : World} {A : Option Addr} {n c : Nat} {xs : List Value} (h : Sl w' A n c xs) {a : Addr} (ha : ∀ ad, A = some ad → ad.block ≠ a.block) (u : Value) : Sl (w'.setCell a u) A n c xs :=
  h.grown (grown_set w' a u) fun ad hA hh => ha ad hA (Option.some.inj hh)
/-- What the walk asks of a block of one, two, three, four cells. -/
theorem Blk.one {v0 : Value} (h : Blk w k #[v0] t) : w.cell? ⟨k, 0, none⟩ = some v0 ∧ w.frozen? ⟨k, 0, none⟩ = false := ⟨h.cell 0, h.frozen 0⟩
theorem Blk.three {v0 v1 v2 : Value} (h : Blk w k #[v0, v1, v2] t) : w.cell? ⟨k, 0, none⟩ = some v0 ∧ w.cell? ⟨k, 1, none⟩ = some v1 ∧ w.cell? ⟨k, 2, none⟩ = some v2 ∧ w.frozen? ⟨k, 0, none⟩ = false ∧ w.frozen? ⟨k, 1, none⟩ = false ∧ w.frozen? ⟨k, 2, none⟩ = false :=
  ⟨h.cell 0, h.cell 1, h.cell 2, h.frozen 0, h.frozen 1, h.frozen 2⟩
theorem Blk.four {v0 v1 v2 v3 : Value} (h : Blk w k #[v0, v1, v2, v3] t) : w.cell? ⟨k, 0, none⟩ = some v0 ∧ w.cell? ⟨k, 1, none⟩ = some v1 ∧ w.cell? ⟨k, 2, none⟩ = some v2 ∧ w.cell? ⟨k, 3, none⟩ = some v3 ∧
    w.frozen? ⟨k, 0, none⟩ = false ∧ w.frozen? ⟨k, 1, none⟩ = false ∧ w.frozen? ⟨k, 2, none⟩ = false ∧ w.frozen? ⟨k, 3, none⟩ = false :=
  ⟨h.cell 0, h.cell 1, h.cell 2, h.cell 3, h.frozen 0, h.frozen 1, h.frozen 2, h.frozen 3⟩

/-- Leaving with a result that lives in a block (a struct), and with one beside it. -/
theorem ret_blk {P : Program} {fn : Func} {R : Ending → World → Prop} {tmps : Array Value} {p : Tmp} {ty t : TypeId} {g : Nat} {cs : Array Value} {fs : Array Field} (hr : fn.results = #[.cell p ty]) (hp : tmps.getD p undef = .pointer (some ⟨g, 0, none⟩))
    (hg : Blk w g cs t) (hu : P.underlying ty = some (.struct fs)) (hi : (P.info? ty).map (·.size) = some cs.size) (hR : R (.returned (.agg cs)) w) : bodyPost P fn R .ret ⟨tmps, []⟩ w :=
  bodyPost_ret (results_cell_row hr tmps w g t cs (0, 0) (.struct fs) hp hg hu rfl hi) rfl hR
theorem ret_blk2 {P : Program} {fn : Func} {R : Ending → World → Prop} {tmps : Array Value} {p u : Tmp} {ty t : TypeId} {g : Nat} {cs : Array Value} {fs : Array Field} {v : Value} (hr : fn.results = #[.cell p ty, .tmp u]) (hp : tmps.getD p undef = .pointer (some ⟨g, 0, none⟩))
    (hg : Blk w g cs t) (hu : P.underlying ty = some (.struct fs)) (hi : (P.info? ty).map (·.size) = some cs.size) (hv : tmps.getD u undef = v) (hR : R (.returned (.tuple #[.agg cs, v])) w) : bodyPost P fn R .ret ⟨tmps, []⟩ w := by
  refine bodyPost_ret ?_ rfl hR
  rw [results_cell_tmp hr, hp, hv]
  simp [asAddr, run_loadVar_row w g t ty cs (0, 0) (.struct fs) hg hu rfl hi, Result.andThen]
end Go.Wag
namespace Go.Wag
open Go.RowKit

theorem wpAnyH_stronger {P : Program} {md : Region.Mode} {ops : Array Oper} {Q : Exit → Act → World → Prop} {S S' : World → Prop} (h : ∀ w, S' w → S w) :
    ∀ (fuel : Nat) (listed : Array Bool) (a : Act) (w : World), wpAnyH P md ops Q S' fuel listed a w → wpAnyH P md ops Q S fuel listed a w
  | 0, _, _, _, hw => hw
  | fuel + 1, _, _, _, hw => ⟨hw.1, fun i hi => wpOp_mono (fun a' w' h' => ⟨h w' h'.1, wpAnyH_stronger h fuel _ a' w' h'.2⟩) (hw.2 i hi)⟩
end Go.Wag
namespace Go.Wag
open Go.RowKit

/-- All orders of a region end in R; from R the walk goes on once. -/
theorem region_join {P : Program} {id : Nat} {ops : Array Oper} {dr : Bool} {α : Type} {K : Act → World → Prop} {Q' : Exit → Act → World → Prop} {a : Act} {w : World} {R : α → Act → World → Prop} (T : α)
    (hbody : (Code.region id ops dr).wp P (fun e a w => e = .normal ∧ R T a w) a w) (hrest : ∀ a w, R T a w → K a w) : (Code.region id ops dr).wp P (Exit.then K Q') a w :=
  Code.wp_mono (fun e a w h => by
    obtain ⟨rfl, h⟩ := h
    exact hrest a w h) hbody

/-- 'append' as one operation of a region. -/
theorem wp_app {P : Program} {o : Oper} {a : Act} {w w' : World} {K : Act → World → Prop} {Q : Exit → Act → World → Prop} {v u : Value} {A : Option Addr} {m c : Nat} (s x : Operand) (t : TypeId)
    (ho : o.op = .call { callee := .builtin .append, args := #[s, x], argTypes := #[t, t] }) (hs : a.eval s = v) (hx : a.eval x = .slice A m c)
    (hr : (Builtin.append_ #[t, t] o.type #[v, .slice A m c]).run P w = .ok u w') (h : K (a.put o.dst u) w') : Oper.wp P o a w K Q := by
  unfold Oper.wp execOp
  simp only [ho, resolve, invoke, builtin, Sem.run_bind, Sem.run_pure, Result.andThen_ok, List.map_toArray, List.map_cons, List.map_nil, hs, hx, hr]
  exact h

theorem own_base {w : World} {base B : Nat} {e : TypeId} {v : Value} {n : Nat} {xs : List Value} (h : w.ownsRow base e 1 v n xs) (hb : B ≤ base) : w.ownsRow B e 1 v n xs := by
  refine ⟨h.1, ?_⟩
  rcases h.2 with hn | ⟨g, cap, cur, hv, hg, rest⟩
  · exact .inl hn
  · exact .inr ⟨g, cap, cur, hv, Nat.le_trans hb hg, rest⟩
theorem made_own {B : Nat} (w : World) (z : Value) (e : TypeId) (n c : Nat) (hnc : n ≤ c) (hc : c ≤ 9223372036854775807) (hb : B ≤ w.heap.size) :
    (w.alloc (.cells (mk0 z c) e)).ownsRow B e 1 (.slice (some ⟨w.heap.size, 0, none⟩) n c) n (List.replicate n z) := own_base (Own.made w z e n c hnc hc).own hb
theorem built_own {B : Nat} (w : World) (cells : Array Value) (e : TypeId) (xs : List Value) (n : Nat) (hx : cells.toList = xs) (hn : xs.length = n) (h1 : n ≤ 1000) (hb : B ≤ w.heap.size) :
    (w.alloc (.cells cells e)).ownsRow B e 1 (.slice (some ⟨w.heap.size, 0, none⟩) n n) n xs := by
  subst hx
  refine ⟨by simpa using hn, .inr ⟨w.heap.size, n, cells, rfl, hb, ?_, Nat.le_refl _, by simp only [maxLen]; omega, by simpa using hn, ?_⟩⟩
  · show (w.heap.push _)[_]? = _
    simp
  · rw [Nat.mul_one, ← hn, List.take_length]
theorem own_ne {w : World} {base kv : Nat} {e : TypeId} {v : Value} {n : Nat} {xs : List Value} (O : w.ownsRow base e 1 v n xs) (h : w.heap.size ≤ kv) : ∀ b, v.ownBlock = some b → b ≠ kv := fun b hb e => by
  have := (World.ownsRow.lt O b hb).2
  omega
theorem ownA_ne {w : World} {base kv : Nat} {e : TypeId} {A : Option Addr} {n c : Nat} {xs : List Value} (N : w.ownsRow base e 1 (.slice A n c) n xs) (h : w.heap.size ≤ kv) : ∀ ad, A = some ad → ad.block ≠ kv := fun ad hA e => by
  subst hA
  have := (World.ownsRow.lt N ad.block rfl).2
  omega
theorem nw_ne {w w' : World} {k : Nat} {e : TypeId} {A : Option Addr} {n c : Nat} {xs : List Value} (N : Nw e w w' A n c xs) (h : k < w.heap.size) : ∀ ad, A = some ad → ad.block ≠ k := fun ad hA e => by
  have := N.fr ad hA
  omega
theorem slice_ne {w : World} {k : Nat} (n : Nat) (h : k < w.heap.size) : ∀ b, (Value.slice (some ⟨w.heap.size, 0, none⟩) n n).ownBlock = some b → b ≠ k := fun b hb e => by
  have hb' : some w.heap.size = some b := hb
  cases hb'
  omega
theorem own_ne_step {w w' : World} {base k : Nat} {e : TypeId} {v v' : Value} {m : Nat} {ys : List Value} (hO : Own base e w w' v v' m ys) (hne : ∀ b, v.ownBlock = some b → b ≠ k) (hk : k < w.heap.size) : ∀ b, v'.ownBlock = some b → b ≠ k := fun b hb => by
  rcases hO.lies with h | h
  · exact hne b (h ▸ hb)
  · intro e
    have := h b hb
    omega
theorem own_below {W w w' : World} {base : Nat} {e : TypeId} {v v' : Value} {n m : Nat} {xs ys : List Value} (O : w.ownsRow W.heap.size e 1 v n xs) (hO : Own base e w w' v v' m ys) (b : Below W.heap.size W w) : Below W.heap.size W w' :=
  hO.below b b.size (fun k hk => (World.ownsRow.lt O k hk).1)
theorem sl_of_eq {w : World} {base : Nat} {e : TypeId} {A : Option Addr} {n c : Nat} {u : Value} {xs : List Value} (h : Value.slice A n c = u) (O : w.ownsRow base e 1 u n xs) : Sl w A n c xs := by
  subst h
  exact Sl.of_own O
theorem Nw.alloc {e : TypeId} {w w' : World} {A : Option Addr} {n c : Nat} {xs : List Value} (h : Nw e w w' A n c xs) (o : Obj) : Nw e w (w'.alloc o) A n c xs := World.ownsRow.alloc h o
end Go.Wag
namespace Go.Wag

/-- The cell at k of a row of one's own: what it holds, that it may be written, and the row behind a store. -/
theorem Own.store {base : Nat} {e : TypeId} {w0 w : World} {v0 : Value} {A : Option Addr} {n c : Nat} {xs : List Value} (h : Own base e w0 w v0 (.slice A n c) n xs) {k : Nat} (hk : k < n) :
    ∃ g u, A = some ⟨g, 0, none⟩ ∧ xs[k]? = some u ∧ w.cell? ⟨g, k, none⟩ = some u ∧ w.frozen? ⟨g, k, none⟩ = false ∧ ∀ x, Own base e w0 (w.setCell ⟨g, k, none⟩ x) v0 (.slice A n c) n (xs.set k x) := by
  obtain ⟨hlen, hn | ⟨g, cap, cur, hv, hbg, hg, hnc, hcm, hcs, ht⟩⟩ := id h.own
  · exact absurd hn.2 (by omega)
  · obtain ⟨rfl, rfl⟩ : A = some ⟨g, 0, none⟩ ∧ c = cap := by simpa using hv
    have hkl : k < xs.length := by rw [Nat.mul_one] at hlen; omega
    refine ⟨g, xs[k], rfl, List.getElem?_eq_getElem hkl, ?_, ?_, fun x => ?_⟩
    · have := h.own.cells (g := g) rfl k _ (List.getElem?_eq_getElem hkl)
      have e2 : ((⟨g, 0, none⟩ : Addr).add k) = ⟨g, k, none⟩ := by unfold Addr.add; split <;> simp_all
      rwa [e2] at this
    · exact h.own.frozenAt k
    · obtain ⟨h1, h2⟩ := h.own.stored k x
      exact h.step ⟨h1, h2, .inl rfl, h.hbase⟩
end Go.Wag
namespace Go.Wag
open Go.RowKit Go.ChangeShapes Go.WideShapes
section
variable {H : Type} {enc : TypeId × Value → H} {P : Program} {w : World}

/-- A field that is a slice of integers. -/
theorem isRow_of_trod {t e : TypeId} {k : IntKind} {base fuel : Nat} {held : Bool} {v : Value} {x : DataW H × List MemPlace} (ht : P.underlying t = some (.slice e)) (he : P.underlying e = some (.int k)) (hc : P.cellsOf e = 1)
    (h : DataW.trod enc P w base (fun _ => true) held fuel t [v] = some x) : ∃ a len cap zs, v = .slice a len cap ∧ IsRow k w a len cap zs := by
  rcases open_ints ht he hc h with ⟨hcs, _⟩ | ⟨a, l, c, zs, hcs, _, hl, hm, hz, _, hcell, hwz⟩
  · exact ⟨none, 0, 0, [], by simpa using hcs, .inl ⟨rfl, rfl, rfl, rfl⟩⟩
  · exact ⟨some a, l, c, zs, by simpa using hcs, .inr ⟨_, rfl, hl, hm, by simpa using hz, hcell, hwz⟩⟩
end
end Go.Wag
namespace Go.Wag
open Go.RowKit Go.ChangeShapes Go.WideShapes Go.Deep

/-- The form of a field: a number, a string, a bool, a slice of numbers. -/
inductive Fm where
  | num (k : IntKind)
  | str
  | bool
  | row (k : IntKind)
/-- A cell of such a form, in a world. -/
def FdOk : Fm → World → Value → Prop
  | .num k, _, v => ∃ n, v = .int k n ∧ (Lit.int k n).wf = true
  | .str, _, v => ∃ s : ByteArray, v = .string s ∧ s.size ≤ maxLen
  | .bool, _, v => ∃ b, v = .bool b
  | .row k, w, v => ∃ a len cap zs, v = .slice a len cap ∧ IsRow k w a len cap zs
/-- A type of such a form. -/
def FmOk (P : Program) : Fm → TypeId → Prop
  | .num k, t => P.underlying t = some (.int k)
  | .str, t => P.underlying t = some .string
  | .bool, t => P.underlying t = some .bool
  | .row k, t => ∃ e, P.underlying t = some (.slice e) ∧ P.underlying e = some (.int k) ∧ P.cellsOf e = 1
inductive FmsOk (P : Program) : List Field → List Fm → Prop where
  | nil : FmsOk P [] []
  | cons {f : Field} {fs : List Field} {m : Fm} {ms : List Fm} (h : FmOk P m f.type) (r : FmsOk P fs ms) : FmsOk P (f :: fs) (m :: ms)
theorem FmsOk.len {P : Program} {fs : List Field} {ms : List Fm} (h : FmsOk P fs ms) : ms.length = fs.length := by
  induction h with
  | nil => rfl
  | cons _ _ ih => simp [ih]
theorem FmsOk.at_ {P : Program} {fs : List Field} {ms : List Fm} (h : FmsOk P fs ms) : ∀ (j : Nat) (m : Fm), ms[j]? = some m → ∃ f, fs[j]? = some f ∧ FmOk P m f.type := by
  induction h with
  | nil => intro j m hj; simp at hj
  | cons h0 _ ih =>
    intro j m hj
    cases j with
    | zero =>
      simp only [List.getElem?_cons_zero, Option.some.injEq] at hj
      subst hj
      exact ⟨_, rfl, h0⟩
    | succ j => exact ih j m (by simpa using hj)
/-- A slice of structs of such fields. -/
def IsSts (ms : List Fm) (w : World) (a : Option Addr) (len cap : Nat) : Prop :=
  (a = none ∧ len = 0 ∧ cap = 0) ∨ ∃ ad, a = some ad ∧ len ≤ cap ∧ cap ≤ maxLen ∧ ∀ i, i < len → ∀ j m, ms[j]? = some m → ∃ v, w.cell? (ad.add (i * ms.length + j)) = some v ∧ FdOk m w v

section
variable {H : Type} {enc : TypeId × Value → H} {P : Program} {w : World} {base : Nat} {held : Bool}
theorem fdOk_of_trod {m : Fm} {t : TypeId} {n : Nat} {v : Value} {y : DataW H × List MemPlace} (hm : FmOk P m t) (h : DataW.trod enc P w base (fun _ => true) held n t [v] = some y) : FdOk m w v := by
  cases m with
  | num k =>
    obtain ⟨x, hx, _, hw⟩ := DataW.trod_int hm h
    exact ⟨x, by simpa using hx, hw⟩
  | str =>
    obtain ⟨x, hx, _, hw⟩ := DataW.trod_string hm h
    exact ⟨x, by simpa using hx, hw⟩
  | bool =>
    obtain ⟨x, hx, _⟩ := DataW.trod_bool hm h
    exact ⟨x, by simpa using hx⟩
  | row k =>
    obtain ⟨e, h1, h2, h3⟩ := hm
    exact isRow_of_trod h1 h2 h3 h
theorem isSts_of_trod {t e : TypeId} {fs : Array Field} {ms : List Fm} {a : Option Addr} {len cap : Nat} {d : DataW H} {ps : List MemPlace} (ht : P.underlying t = some (.slice e)) (he : P.underlying e = some (.struct fs)) (hone : oneCellFields P fs = true) (hC : P.cellsOf e = fs.size)
    (hF : FmsOk P fs.toList ms) (h : DataW.Trod enc P w base (fun _ => true) held t (.slice a len cap) d ps) : IsSts ms w a len cap := by
  have hl : ms.length = fs.size := by simpa using hF.len
  obtain ⟨fuel, hf⟩ := h
  rcases open_slice ht hf with ⟨hcs, _⟩ | ⟨ad, l, c, m, n, D, Pl, hcs, _, hlc, hcm, hm, _, hi⟩
  · obtain ⟨rfl, rfl, rfl⟩ : a = none ∧ len = 0 ∧ cap = 0 := by simpa [Value.cells] using hcs
    exact .inl ⟨rfl, rfl, rfl⟩
  · obtain ⟨rfl, rfl, rfl⟩ : a = some ad ∧ len = l ∧ cap = c := by simpa [Value.cells] using hcs
    refine .inr ⟨ad, rfl, hlc, hcm, fun i hil j fm hj => ?_⟩
    have hmc : m = cap := by simpa using hm
    obtain ⟨cs, hc, htr⟩ := hi i (by omega)
    rw [hC] at hc
    obtain ⟨ys, k, _, _, _, hyl, hfd⟩ := DataW.trod_struct he htr
    obtain ⟨f, hfj, hfm⟩ := hF.at_ j fm hj
    have hfa : fs[j]? = some f := by simpa using hfj
    have hjs : j < fs.size := (Array.getElem?_eq_some_iff.1 hfa).1
    obtain ⟨ho, hk⟩ := hone_of hone j f hfa
    obtain ⟨_, hcl, hat⟩ := World.cells?_some hc
    have h1 := hfd j f hfa
    rw [ho, hk, List.getElem?_eq_getElem (by omega : j < ys.length), List.drop_eq_getElem_cons (by omega : j < cs.length)] at h1
    refine ⟨cs[j]'(by omega), ?_, fdOk_of_trod hfm h1⟩
    rw [hl, ← add_add, hat j hjs, List.getElem?_eq_getElem]
end
end Go.Wag
namespace Go.Wag
open Go.RowKit
set_option linter.unusedVariables false
set_option maxRecDepth 20000

section
variable {w w' : World} {k : Nat} {t : TypeId}
theorem Blk.two {v0 v1 : Value} (h : Blk w k #[v0, v1] t) : w.cell? ⟨k, 0, none⟩ = some v0 ∧ w.cell? ⟨k, 1, none⟩ = some v1 ∧ w.frozen? ⟨k, 0, none⟩ = false ∧ w.frozen? ⟨k, 1, none⟩ = false :=
  ⟨h.cell 0, h.cell 1, h.frozen 0, h.frozen 1⟩
theorem Blk.five {v0 v1 v2 v3 v4 : Value} (h : Blk w k #[v0, v1, v2, v3, v4] t) : w.cell? ⟨k, 0, none⟩ = some v0 ∧ w.cell? ⟨k, 1, none⟩ = some v1 ∧ w.cell? ⟨k, 2, none⟩ = some v2 ∧ w.cell? ⟨k, 3, none⟩ = some v3 ∧ w.cell? ⟨k, 4, none⟩ = some v4 ∧
    w.frozen? ⟨k, 0, none⟩ = false ∧ w.frozen? ⟨k, 1, none⟩ = false ∧ w.frozen? ⟨k, 2, none⟩ = false ∧ w.frozen? ⟨k, 3, none⟩ = false ∧ w.frozen? ⟨k, 4, none⟩ = false :=
  ⟨h.cell 0, h.cell 1, h.cell 2, h.cell 3, h.cell 4, h.frozen 0, h.frozen 1, h.frozen 2, h.frozen 3, h.frozen 4⟩
theorem Blk.eight {v0 v1 v2 v3 v4 v5 v6 v7 : Value} (h : Blk w k #[v0, v1, v2, v3, v4, v5, v6, v7] t) : w.cell? ⟨k, 0, none⟩ = some v0 ∧ w.cell? ⟨k, 1, none⟩ = some v1 ∧ w.cell? ⟨k, 2, none⟩ = some v2 ∧ w.cell? ⟨k, 3, none⟩ = some v3 ∧ w.cell? ⟨k, 4, none⟩ = some v4 ∧ w.cell? ⟨k, 5, none⟩ = some v5 ∧ w.cell? ⟨k, 6, none⟩ = some v6 ∧ w.cell? ⟨k, 7, none⟩ = some v7 ∧
    w.frozen? ⟨k, 0, none⟩ = false ∧ w.frozen? ⟨k, 1, none⟩ = false ∧ w.frozen? ⟨k, 2, none⟩ = false ∧ w.frozen? ⟨k, 3, none⟩ = false ∧ w.frozen? ⟨k, 4, none⟩ = false ∧ w.frozen? ⟨k, 5, none⟩ = false ∧ w.frozen? ⟨k, 6, none⟩ = false ∧ w.frozen? ⟨k, 7, none⟩ = false :=
  ⟨h.cell 0, h.cell 1, h.cell 2, h.cell 3, h.cell 4, h.cell 5, h.cell 6, h.cell 7, h.frozen 0, h.frozen 1, h.frozen 2, h.frozen 3, h.frozen 4, h.frozen 5, h.frozen 6, h.frozen 7⟩
end

/-- All blocks that were there, but kr, are as they were. -/
structure But (kr : Nat) (w w' : World) : Prop where
  size : w.heap.size ≤ w'.heap.size
  block : ∀ i, i < w.heap.size → i ≠ kr → w'.heap[i]? = w.heap[i]?
theorem But.refl (kr : Nat) (w : World) : But kr w w := ⟨Nat.le_refl _, fun _ _ _ => rfl⟩
theorem But.drew {kr : Nat} {w w' : World} (h : But kr w w') : But kr w w'.drew := ⟨h.size, h.block⟩
theorem But.call {kr : Nat} {w w' w2 : World} (h : But kr w w') (b : Below w'.heap.size w' w2) : But kr w w2 :=
  ⟨Nat.le_trans h.size b.size, fun i hi hk => (b.block i (Nat.lt_of_lt_of_le hi h.size)).trans (h.block i hi hk)⟩
theorem But.set {kr : Nat} {w w' : World} (h : But kr w w') (i : Nat) (u : Value) : But kr w (w'.setCell ⟨kr, i, none⟩ u) :=
  ⟨by simpa [World.setCell] using h.size, fun j hj hk => (Below.heap_setCell _ _ _ _ (by simpa using hk)).trans (h.block j hj hk)⟩
theorem Blk.but {kr k : Nat} {w w' : World} {vs : Array Value} {t : TypeId} (h : Blk w k vs t) (hb : But kr w w') (hk : k ≠ kr) : Blk w' k vs t := (hb.block k h.lt hk).trans h
theorem But.cell {kr : Nat} {w w' : World} (hb : But kr w w') {p : Addr} (hp : p.block < w.heap.size) (hk : p.block ≠ kr) : w'.cell? p = w.cell? p := World.cell?_of_block (hb.block _ hp hk)
theorem Sl.but {kr : Nat} {w w' : World} {A : Option Addr} {n c : Nat} {xs : List Value} (h : Sl w A n c xs) (hb : But kr w w') (hA : 0 < n → ∀ ad, A = some ad → ad.block ≠ kr) : Sl w' A n c xs :=
  ⟨h.len, h.cap, h.big, fun hn => by
    obtain ⟨ad, e, hl, hc⟩ := h.cells hn
    exact ⟨ad, e, Nat.lt_of_lt_of_le hl hb.size, fun j u hu => (hb.cell (by rw [add_block]; exact hl) (by rw [add_block]; exact hA hn ad e)).trans (hc j u hu)⟩⟩

theorem Sl.farz {w' : World} {A : Option Addr} {n c : Nat} {xs : List Value} (h : Sl w' A n c xs) {a : Addr} (ha : 0 < n → ∀ ad, A = some ad → ad.block ≠ a.block) (u : Value) : Sl (w'.setCell a u) A n c xs := by
  rcases Nat.eq_zero_or_pos n with h0 | h0
  · exact ⟨h.len, h.cap, h.big, fun hn => absurd hn (by omega)⟩
  · exact h.far (ha h0) u

/-- A zone as data: state, resets, how much lasts, bytes. -/
structure Zp where
  st : Int
  rs : Int
  la : Int
  l : List UInt8

/-- The four cells of zone z, in block g from cell i on; its bytes lie in blocks that meet F. -/
def ZAt (F : Nat → Prop) (w : World) (g i : Nat) (z : Zp) : Prop :=
  ∃ A c, w.cell? ⟨g, i, none⟩ = some (.int .i64 z.st) ∧ w.cell? ⟨g, i + 1, none⟩ = some (.int .i64 z.rs) ∧ w.cell? ⟨g, i + 2, none⟩ = some (.slice A z.l.length c) ∧ w.cell? ⟨g, i + 3, none⟩ = some (.int .i64 z.la) ∧
    Sl w A z.l.length c (z.l.map v8) ∧ (0 < z.l.length → ∀ ad, A = some ad → F ad.block)

/-- '.slice A n c' reads as the zones zs, all of it in blocks that meet F. -/
structure Zs (F : Nat → Prop) (w : World) (A : Option Addr) (n c : Nat) (zs : List Zp) : Prop where
  len : zs.length = n
  cap : n ≤ c
  big : c ≤ 9223372036854775807
  cells : 0 < n → ∃ g o, A = some ⟨g, o, none⟩ ∧ F g ∧ g < w.heap.size ∧ ∀ i z, zs[i]? = some z → ZAt F w g (o + i * 4) z

section
variable {F : Nat → Prop} {w w' : World} {A : Option Addr} {n c : Nat} {zs : List Zp}
theorem ZAt.keep {g i : Nat} {z : Zp} (h : ZAt F w g i z) (hg : g < w.heap.size) (hs : w.heap.size ≤ w'.heap.size) (hk : ∀ p : Addr, p.block < w.heap.size → F p.block → w'.cell? p = w.cell? p) (hF : F g) : ZAt F w' g i z := by
  obtain ⟨A, c, h0, h1, h2, h3, hS, hA⟩ := h
  refine ⟨A, c, (hk ⟨g, i, none⟩ hg hF).trans h0, (hk ⟨g, i + 1, none⟩ hg hF).trans h1, (hk ⟨g, i + 2, none⟩ hg hF).trans h2, (hk ⟨g, i + 3, none⟩ hg hF).trans h3, ⟨hS.len, hS.cap, hS.big, fun hn => ?_⟩, hA⟩
  obtain ⟨ad, e, hb, hc⟩ := hS.cells hn
  exact ⟨ad, e, by omega, fun j u hu => (hk _ (by rw [add_block]; exact hb) (by rw [add_block]; exact hA hn ad e)).trans (hc j u hu)⟩
theorem Zs.keep (h : Zs F w A n c zs) (hs : w.heap.size ≤ w'.heap.size) (hk : ∀ p : Addr, p.block < w.heap.size → F p.block → w'.cell? p = w.cell? p) : Zs F w' A n c zs :=
  ⟨h.len, h.cap, h.big, fun hn => by
    obtain ⟨g, o, e, hF, hg, hc⟩ := h.cells hn
    exact ⟨g, o, e, hF, by omega, fun i z hz => (hc i z hz).keep hg hs hk hF⟩⟩
theorem Zs.below (h : Zs F w A n c zs) (hb : Below w.heap.size w w') : Zs F w' A n c zs := h.keep hb.size fun _ hp _ => hb.cell hp
theorem Zs.alloc (h : Zs F w A n c zs) (o : Obj) : Zs F (w.alloc o) A n c zs := h.below ((Below.refl _ _).alloc (Nat.le_refl _) o)
theorem cell_far {a p : Addr} (w : World) (u : Value) (h : p.block ≠ a.block) : (w.setCell a u).cell? p = w.cell? p :=
  World.cell?_of_block (Below.heap_setCell _ _ _ _ h)
theorem Zs.far (h : Zs F w A n c zs) {a : Addr} (ha : ¬ F a.block) (u : Value) : Zs F (w.setCell a u) A n c zs :=
  h.keep (by simp [World.setCell]) fun p _ hF => cell_far w u (fun e => ha (e ▸ hF))
theorem ZAt.imp {F' : Nat → Prop} {g i : Nat} {z : Zp} (h : ZAt F w g i z) (hF : ∀ b, b < w.heap.size → F b → F' b) : ZAt F' w g i z := by
  obtain ⟨A, c, h0, h1, h2, h3, hS, hA⟩ := h
  refine ⟨A, c, h0, h1, h2, h3, hS, fun hn ad e => ?_⟩
  obtain ⟨ad', e', hb, _⟩ := hS.cells hn
  cases e.symm.trans e'
  exact hF _ hb (hA hn ad e)
theorem Zs.imp {F' : Nat → Prop} (h : Zs F w A n c zs) (hF : ∀ b, b < w.heap.size → F b → F' b) : Zs F' w A n c zs :=
  ⟨h.len, h.cap, h.big, fun hn => by
    obtain ⟨g, o, e, hG, hg, hc⟩ := h.cells hn
    exact ⟨g, o, e, hF g hg hG, hg, fun i z hz => (hc i z hz).imp hF⟩⟩
theorem Zs.nil (F : Nat → Prop) (w : World) : Zs F w none 0 0 [] := ⟨rfl, Nat.le_refl _, by omega, fun h => absurd h (by omega)⟩
/-- Zone i of them. -/
theorem Zs.at_ (h : Zs F w A n c zs) {i : Nat} (hi : i < n) : ∃ g o z Ai ci, A = some ⟨g, o, none⟩ ∧ F g ∧ g < w.heap.size ∧ zs[i]? = some z ∧ w.cell? ⟨g, o + i * 4, none⟩ = some (.int .i64 z.st) ∧ w.cell? ⟨g, o + i * 4 + 1, none⟩ = some (.int .i64 z.rs) ∧
    w.cell? ⟨g, o + i * 4 + 2, none⟩ = some (.slice Ai z.l.length ci) ∧ w.cell? ⟨g, o + i * 4 + 3, none⟩ = some (.int .i64 z.la) ∧ Sl w Ai z.l.length ci (z.l.map v8) ∧ (0 < z.l.length → ∀ ad, Ai = some ad → F ad.block) := by
  obtain ⟨g, o, e, hF, hg, hc⟩ := h.cells (by omega)
  have hl : i < zs.length := by have := h.len; omega
  obtain ⟨Ai, ci, h0, h1, h2, h3, hS, hA⟩ := hc i _ (List.getElem?_eq_getElem hl)
  exact ⟨g, o, zs[i], Ai, ci, e, hF, hg, List.getElem?_eq_getElem hl, h0, h1, h2, h3, hS, hA⟩
end

/-- At most a hundred zones, each of at most 2^20 bytes. -/
def Sm (zs : List Zp) : Prop := zs.length ≤ 100 ∧ ∀ z ∈ zs, z.l.length ≤ 1048576
theorem Sm.at_ {zs : List Zp} (h : Sm zs) {i : Nat} {z : Zp} (hz : zs[i]? = some z) : z.l.length ≤ 1048576 := h.2 z (List.mem_of_getElem? hz)

/-- A row of zones that the call has made itself: block g holds n zones, cell by cell; the bytes lie in other blocks from B on. -/
structure Zo (B : Nat) (t : TypeId) (w : World) (g : Nat) (zs : List Zp) : Prop where
  base : B ≤ g
  blk : ∃ vs : Array Value, vs.size = zs.length * 4 ∧ Blk w g vs t
  at_ : ∀ i z, zs[i]? = some z → ZAt (fun b => B ≤ b ∧ b ≠ g) w g (i * 4) z
section
variable {B : Nat} {t : TypeId} {w w' : World} {g : Nat} {zs : List Zp}
theorem Zo.lt (h : Zo B t w g zs) : g < w.heap.size := by
  obtain ⟨vs, _, hb⟩ := h.blk
  exact hb.lt
theorem Zo.mono {B' : Nat} (h : Zo B t w g zs) (hB : B' ≤ B) : Zo B' t w g zs :=
  ⟨Nat.le_trans hB h.base, h.blk, fun i z hz => (h.at_ i z hz).imp (fun b _ hb => ⟨Nat.le_trans hB hb.1, hb.2⟩)⟩
theorem Zo.toZs (h : Zo B t w g zs) (hn : zs.length ≤ 100) : Zs (fun b => B ≤ b) w (some ⟨g, 0, none⟩) zs.length zs.length zs :=
  ⟨rfl, Nat.le_refl _, by omega, fun _ => ⟨g, 0, rfl, h.base, h.lt, fun i z hz => by
    rw [Nat.zero_add]
    exact (h.at_ i z hz).imp (fun b _ hb => hb.1)⟩⟩
theorem Zo.below {Bw : Nat} (h : Zo B t w g zs) (hb : Below Bw w w') (hB : w.heap.size ≤ Bw) : Zo B t w' g zs := by
  obtain ⟨vs, hv, hk⟩ := h.blk
  have hg := hk.lt
  refine ⟨h.base, ⟨vs, hv, hk.below hb (by omega)⟩, fun i z hz => ?_⟩
  obtain ⟨A, c, h0, h1, h2, h3, hS, hA⟩ := h.at_ i z hz
  have hx : ∀ p : Addr, p.block < w.heap.size → w'.cell? p = w.cell? p := fun p hp => hb.cell (by omega)
  refine ⟨A, c, (hx ⟨g, i * 4, none⟩ hg).trans h0, (hx ⟨g, i * 4 + 1, none⟩ hg).trans h1, (hx ⟨g, i * 4 + 2, none⟩ hg).trans h2, (hx ⟨g, i * 4 + 3, none⟩ hg).trans h3, hS.keep hb.size hx, hA⟩
theorem Zo.under (h : Zo B t w g zs) (hb : Below w.heap.size w w') : Zo B t w' g zs := h.below hb (Nat.le_refl _)
theorem Zo.alloc (h : Zo B t w g zs) (o : Obj) : Zo B t (w.alloc o) g zs := h.under ((Below.refl _ _).alloc (Nat.le_refl _) o)
/-- A store into another block, below B or new since. -/
theorem Zo.far (h : Zo B t w g zs) {a : Addr} (ha : a.block < B) (u : Value) : Zo B t (w.setCell a u) g zs := by
  obtain ⟨vs, hv, hk⟩ := h.blk
  have hbase := h.base
  refine ⟨h.base, ⟨vs, hv, hk.far (by omega) u⟩, fun i z hz => ?_⟩
  obtain ⟨A, c, h0, h1, h2, h3, hS, hA⟩ := h.at_ i z hz
  have hx : ∀ j, (w.setCell a u).cell? ⟨g, j, none⟩ = w.cell? ⟨g, j, none⟩ := fun j => cell_far w u (show g ≠ a.block by omega)
  refine ⟨A, c, (hx _).trans h0, (hx _).trans h1, (hx _).trans h2, (hx _).trans h3, ⟨hS.len, hS.cap, hS.big, fun hn => ?_⟩, hA⟩
  obtain ⟨ad, e, hb, hc⟩ := hS.cells hn
  have := (hA hn ad e).1
  exact ⟨ad, e, by simpa [World.setCell] using hb, fun j v hv => (cell_far w u (by rw [add_block]; omega)).trans (hc j v hv)⟩
/-- Zone k of them: its cells, and that they may be written. -/
theorem Zo.cells (h : Zo B t w g zs) {k : Nat} (hk : k < zs.length) : (∃ a b c d, w.cell? ⟨g, k * 4, none⟩ = some a ∧ w.cell? ⟨g, k * 4 + 1, none⟩ = some b ∧ w.cell? ⟨g, k * 4 + 2, none⟩ = some c ∧ w.cell? ⟨g, k * 4 + 3, none⟩ = some d) ∧
    w.frozen? ⟨g, k * 4, none⟩ = false ∧ w.frozen? ⟨g, k * 4 + 1, none⟩ = false ∧ w.frozen? ⟨g, k * 4 + 2, none⟩ = false ∧ w.frozen? ⟨g, k * 4 + 3, none⟩ = false := by
  obtain ⟨vs, _, hb⟩ := h.blk
  obtain ⟨A, c, h0, h1, h2, h3, _⟩ := h.at_ k _ (List.getElem?_eq_getElem hk)
  exact ⟨⟨_, _, _, _, h0, h1, h2, h3⟩, hb.frozen _, hb.frozen _, hb.frozen _, hb.frozen _⟩
theorem cell_set {k i j : Nat} {vs : Array Value} {u : Value} (h : Blk w k vs t) (hi : i < vs.size) : (w.setCell ⟨k, i, none⟩ u).cell? ⟨k, j, none⟩ = if i = j then some u else w.cell? ⟨k, j, none⟩ := by
  rw [(h.set i u).cell j, h.cell j, Array.getElem?_setIfInBounds]
  by_cases e : i = j
  · rw [if_pos e, if_pos e, if_pos hi]
  · rw [if_neg e, if_neg e]
/-- The store of a zone at place k. -/
theorem Zo.set (h : Zo B t w g zs) {k : Nat} (hk : k < zs.length) {A : Option Addr} {c : Nat} (z : Zp) (hS : Sl w A z.l.length c (z.l.map v8)) (hA : 0 < z.l.length → ∀ ad, A = some ad → B ≤ ad.block ∧ ad.block ≠ g) :
    Zo B t ((((w.setCell ⟨g, k * 4, none⟩ (.int .i64 z.st)).setCell ⟨g, k * 4 + 1, none⟩ (.int .i64 z.rs)).setCell ⟨g, k * 4 + 2, none⟩ (.slice A z.l.length c)).setCell ⟨g, k * 4 + 3, none⟩ (.int .i64 z.la)) g (zs.set k z) := by
  obtain ⟨vs, hv, hb⟩ := h.blk
  have b1 := hb.set (k * 4) (.int .i64 z.st)
  have b2 := b1.set (k * 4 + 1) (.int .i64 z.rs)
  have b3 := b2.set (k * 4 + 2) (.slice A z.l.length c)
  have b4 := b3.set (k * 4 + 3) (.int .i64 z.la)
  have hx : ∀ j, ((((w.setCell ⟨g, k * 4, none⟩ (.int .i64 z.st)).setCell ⟨g, k * 4 + 1, none⟩ (.int .i64 z.rs)).setCell ⟨g, k * 4 + 2, none⟩ (.slice A z.l.length c)).setCell ⟨g, k * 4 + 3, none⟩ (.int .i64 z.la)).cell? ⟨g, j, none⟩ =
      if k * 4 + 3 = j then some (.int .i64 z.la) else if k * 4 + 2 = j then some (.slice A z.l.length c) else if k * 4 + 1 = j then some (.int .i64 z.rs) else if k * 4 = j then some (.int .i64 z.st) else w.cell? ⟨g, j, none⟩ := fun j => by
    rw [cell_set b3 (by simp; omega), cell_set b2 (by simp; omega), cell_set b1 (by simp; omega), cell_set hb (by omega)]
  have hy : ∀ p : Addr, p.block ≠ g → ((((w.setCell ⟨g, k * 4, none⟩ (.int .i64 z.st)).setCell ⟨g, k * 4 + 1, none⟩ (.int .i64 z.rs)).setCell ⟨g, k * 4 + 2, none⟩ (.slice A z.l.length c)).setCell ⟨g, k * 4 + 3, none⟩ (.int .i64 z.la)).cell? p = w.cell? p := fun p hp => by
    rw [cell_far _ _ hp, cell_far _ _ hp, cell_far _ _ hp, cell_far _ _ hp]
  have hz : w.heap.size ≤ ((((w.setCell ⟨g, k * 4, none⟩ (.int .i64 z.st)).setCell ⟨g, k * 4 + 1, none⟩ (.int .i64 z.rs)).setCell ⟨g, k * 4 + 2, none⟩ (.slice A z.l.length c)).setCell ⟨g, k * 4 + 3, none⟩ (.int .i64 z.la)).heap.size := by simp [World.setCell]
  generalize ((((w.setCell ⟨g, k * 4, none⟩ (.int .i64 z.st)).setCell ⟨g, k * 4 + 1, none⟩ (.int .i64 z.rs)).setCell ⟨g, k * 4 + 2, none⟩ (.slice A z.l.length c)).setCell ⟨g, k * 4 + 3, none⟩ (.int .i64 z.la)) = w4 at *
  have hkeep : ∀ {A' : Option Addr} {n' c' : Nat} {xs : List Value}, Sl w A' n' c' xs → (0 < n' → ∀ ad, A' = some ad → B ≤ ad.block ∧ ad.block ≠ g) → Sl w4 A' n' c' xs := fun hS hA => ⟨hS.len, hS.cap, hS.big, fun hn => by
    obtain ⟨ad, e, hb, hc⟩ := hS.cells hn
    exact ⟨ad, e, by omega, fun j u hu => (hy _ (by rw [add_block]; exact (hA hn ad e).2)).trans (hc j u hu)⟩⟩
  refine ⟨h.base, ⟨_, by simpa using hv, b4⟩, fun i zi hi => ?_⟩
  rw [List.getElem?_set] at hi
  by_cases hki : k = i
  · subst hki
    rw [if_pos rfl, if_pos hk] at hi
    cases hi
    exact ⟨A, c, by rw [hx]; simp, by rw [hx]; simp, by rw [hx]; simp, by rw [hx]; simp, hkeep hS hA, hA⟩
  · rw [if_neg hki] at hi
    obtain ⟨A', c', h0, h1, h2, h3, hS', hA'⟩ := h.at_ i zi hi
    have hq : ∀ j, j < 4 → w4.cell? ⟨g, i * 4 + j, none⟩ = w.cell? ⟨g, i * 4 + j, none⟩ := fun j hj => by
      rw [hx, if_neg (by omega), if_neg (by omega), if_neg (by omega), if_neg (by omega)]
    exact ⟨A', c', (hq 0 (by omega)).trans h0, (hq 1 (by omega)).trans h1, (hq 2 (by omega)).trans h2, (hq 3 (by omega)).trans h3, hkeep hS' hA', hA'⟩
end
/-- The same, in blocks that meet F. -/
structure Zf (F : Nat → Prop) (t : TypeId) (w : World) (g : Nat) (zs : List Zp) : Prop where
  base : F g
  blk : ∃ vs : Array Value, vs.size = zs.length * 4 ∧ Blk w g vs t
  at_ : ∀ i z, zs[i]? = some z → ZAt (fun b => F b ∧ b ≠ g) w g (i * 4) z
section
variable {F : Nat → Prop} {t : TypeId} {w w' : World} {g : Nat} {zs : List Zp}
theorem Zf.lt (h : Zf F t w g zs) : g < w.heap.size := by
  obtain ⟨vs, _, hb⟩ := h.blk
  exact hb.lt
theorem Zf.imp {F' : Nat → Prop} (h : Zf F t w g zs) (hF : ∀ b, b < w.heap.size → F b → F' b) : Zf F' t w g zs :=
  ⟨hF g h.lt h.base, h.blk, fun i z hz => (h.at_ i z hz).imp (fun b hb hh => ⟨hF b hb hh.1, hh.2⟩)⟩
theorem Zf.toZs (h : Zf F t w g zs) (hn : zs.length ≤ 100) : Zs F w (some ⟨g, 0, none⟩) zs.length zs.length zs :=
  ⟨rfl, Nat.le_refl _, by omega, fun _ => ⟨g, 0, rfl, h.base, h.lt, fun i z hz => by
    rw [Nat.zero_add]
    exact (h.at_ i z hz).imp (fun b _ hb => hb.1)⟩⟩
theorem Zf.below {Bw : Nat} (h : Zf F t w g zs) (hb : Below Bw w w') (hB : w.heap.size ≤ Bw) : Zf F t w' g zs := by
  obtain ⟨vs, hv, hk⟩ := h.blk
  have hg := hk.lt
  refine ⟨h.base, ⟨vs, hv, hk.below hb (by omega)⟩, fun i z hz => ?_⟩
  obtain ⟨A, c, h0, h1, h2, h3, hS, hA⟩ := h.at_ i z hz
  have hx : ∀ p : Addr, p.block < w.heap.size → w'.cell? p = w.cell? p := fun p hp => hb.cell (by omega)
  refine ⟨A, c, (hx ⟨g, i * 4, none⟩ hg).trans h0, (hx ⟨g, i * 4 + 1, none⟩ hg).trans h1, (hx ⟨g, i * 4 + 2, none⟩ hg).trans h2, (hx ⟨g, i * 4 + 3, none⟩ hg).trans h3, hS.keep hb.size hx, hA⟩
theorem Zf.under (h : Zf F t w g zs) (hb : Below w.heap.size w w') : Zf F t w' g zs := h.below hb (Nat.le_refl _)
theorem Zf.alloc (h : Zf F t w g zs) (o : Obj) : Zf F t (w.alloc o) g zs := h.under ((Below.refl _ _).alloc (Nat.le_refl _) o)
/-- A store into a block that does not meet F. -/
theorem Zf.far (h : Zf F t w g zs) {a : Addr} (ha : ¬ F a.block) (u : Value) : Zf F t (w.setCell a u) g zs := by
  obtain ⟨vs, hv, hk⟩ := h.blk
  have hbase := h.base
  have hga : g ≠ a.block := fun e => ha (e ▸ hbase)
  refine ⟨h.base, ⟨vs, hv, hk.far hga u⟩, fun i z hz => ?_⟩
  obtain ⟨A, c, h0, h1, h2, h3, hS, hA⟩ := h.at_ i z hz
  have hx : ∀ j, (w.setCell a u).cell? ⟨g, j, none⟩ = w.cell? ⟨g, j, none⟩ := fun j => cell_far w u hga
  exact ⟨A, c, (hx _).trans h0, (hx _).trans h1, (hx _).trans h2, (hx _).trans h3, hS.farz (fun hn ad e hh => ha (hh ▸ (hA hn ad e).1)) u, hA⟩
/-- Zone k of them: its cells, and that they may be written. -/
theorem Zf.cells (h : Zf F t w g zs) {k : Nat} (hk : k < zs.length) : (∃ a b c d, w.cell? ⟨g, k * 4, none⟩ = some a ∧ w.cell? ⟨g, k * 4 + 1, none⟩ = some b ∧ w.cell? ⟨g, k * 4 + 2, none⟩ = some c ∧ w.cell? ⟨g, k * 4 + 3, none⟩ = some d) ∧
    w.frozen? ⟨g, k * 4, none⟩ = false ∧ w.frozen? ⟨g, k * 4 + 1, none⟩ = false ∧ w.frozen? ⟨g, k * 4 + 2, none⟩ = false ∧ w.frozen? ⟨g, k * 4 + 3, none⟩ = false := by
  obtain ⟨vs, _, hb⟩ := h.blk
  obtain ⟨A, c, h0, h1, h2, h3, _⟩ := h.at_ k _ (List.getElem?_eq_getElem hk)
  exact ⟨⟨_, _, _, _, h0, h1, h2, h3⟩, hb.frozen _, hb.frozen _, hb.frozen _, hb.frozen _⟩
/-- The store of a zone at place k. -/
theorem Zf.set (h : Zf F t w g zs) {k : Nat} (hk : k < zs.length) {A : Option Addr} {c : Nat} (z : Zp) (hS : Sl w A z.l.length c (z.l.map v8)) (hA : 0 < z.l.length → ∀ ad, A = some ad → F ad.block ∧ ad.block ≠ g) :
    Zf F t ((((w.setCell ⟨g, k * 4, none⟩ (.int .i64 z.st)).setCell ⟨g, k * 4 + 1, none⟩ (.int .i64 z.rs)).setCell ⟨g, k * 4 + 2, none⟩ (.slice A z.l.length c)).setCell ⟨g, k * 4 + 3, none⟩ (.int .i64 z.la)) g (zs.set k z) := by
  obtain ⟨vs, hv, hb⟩ := h.blk
  have b1 := hb.set (k * 4) (.int .i64 z.st)
  have b2 := b1.set (k * 4 + 1) (.int .i64 z.rs)
  have b3 := b2.set (k * 4 + 2) (.slice A z.l.length c)
  have b4 := b3.set (k * 4 + 3) (.int .i64 z.la)
  have hx : ∀ j, ((((w.setCell ⟨g, k * 4, none⟩ (.int .i64 z.st)).setCell ⟨g, k * 4 + 1, none⟩ (.int .i64 z.rs)).setCell ⟨g, k * 4 + 2, none⟩ (.slice A z.l.length c)).setCell ⟨g, k * 4 + 3, none⟩ (.int .i64 z.la)).cell? ⟨g, j, none⟩ =
      if k * 4 + 3 = j then some (.int .i64 z.la) else if k * 4 + 2 = j then some (.slice A z.l.length c) else if k * 4 + 1 = j then some (.int .i64 z.rs) else if k * 4 = j then some (.int .i64 z.st) else w.cell? ⟨g, j, none⟩ := fun j => by
    rw [cell_set b3 (by simp; omega), cell_set b2 (by simp; omega), cell_set b1 (by simp; omega), cell_set hb (by omega)]
  have hy : ∀ p : Addr, p.block ≠ g → ((((w.setCell ⟨g, k * 4, none⟩ (.int .i64 z.st)).setCell ⟨g, k * 4 + 1, none⟩ (.int .i64 z.rs)).setCell ⟨g, k * 4 + 2, none⟩ (.slice A z.l.length c)).setCell ⟨g, k * 4 + 3, none⟩ (.int .i64 z.la)).cell? p = w.cell? p := fun p hp => by
    rw [cell_far _ _ hp, cell_far _ _ hp, cell_far _ _ hp, cell_far _ _ hp]
  have hz : w.heap.size ≤ ((((w.setCell ⟨g, k * 4, none⟩ (.int .i64 z.st)).setCell ⟨g, k * 4 + 1, none⟩ (.int .i64 z.rs)).setCell ⟨g, k * 4 + 2, none⟩ (.slice A z.l.length c)).setCell ⟨g, k * 4 + 3, none⟩ (.int .i64 z.la)).heap.size := by simp [World.setCell]
  generalize ((((w.setCell ⟨g, k * 4, none⟩ (.int .i64 z.st)).setCell ⟨g, k * 4 + 1, none⟩ (.int .i64 z.rs)).setCell ⟨g, k * 4 + 2, none⟩ (.slice A z.l.length c)).setCell ⟨g, k * 4 + 3, none⟩ (.int .i64 z.la)) = w4 at *
  have hkeep : ∀ {A' : Option Addr} {n' c' : Nat} {xs : List Value}, Sl w A' n' c' xs → (0 < n' → ∀ ad, A' = some ad → F ad.block ∧ ad.block ≠ g) → Sl w4 A' n' c' xs := fun hS hA => ⟨hS.len, hS.cap, hS.big, fun hn => by
    obtain ⟨ad, e, hb, hc⟩ := hS.cells hn
    exact ⟨ad, e, by omega, fun j u hu => (hy _ (by rw [add_block]; exact (hA hn ad e).2)).trans (hc j u hu)⟩⟩
  refine ⟨h.base, ⟨_, by simpa using hv, b4⟩, fun i zi hi => ?_⟩
  rw [List.getElem?_set] at hi
  by_cases hki : k = i
  · subst hki
    rw [if_pos rfl, if_pos hk] at hi
    cases hi
    exact ⟨A, c, by rw [hx]; simp, by rw [hx]; simp, by rw [hx]; simp, by rw [hx]; simp, hkeep hS hA, hA⟩
  · rw [if_neg hki] at hi
    obtain ⟨A', c', h0, h1, h2, h3, hS', hA'⟩ := h.at_ i zi hi
    have hq : ∀ j, j < 4 → w4.cell? ⟨g, i * 4 + j, none⟩ = w.cell? ⟨g, i * 4 + j, none⟩ := fun j hj => by
      rw [hx, if_neg (by omega), if_neg (by omega), if_neg (by omega), if_neg (by omega)]
    exact ⟨A', c', (hq 0 (by omega)).trans h0, (hq 1 (by omega)).trans h1, (hq 2 (by omega)).trans h2, (hq 3 (by omega)).trans h3, hkeep hS' hA', hA'⟩
theorem Zo.toZf {B : Nat} (h : Zo B t w g zs) {F : Nat → Prop} (hF : ∀ b, b < w.heap.size → B ≤ b → F b) : Zf F t w g zs :=
  ⟨hF g h.lt h.base, h.blk, fun i z hz => (h.at_ i z hz).imp (fun b hb hh => ⟨hF b hb hh.1, hh.2⟩)⟩
theorem Zf.toZo {B : Nat} (h : Zf F t w g zs) (hF : ∀ b, b < w.heap.size → F b → B ≤ b) : Zo B t w g zs :=
  ⟨hF g h.lt h.base, h.blk, fun i z hz => (h.at_ i z hz).imp (fun b hb hh => ⟨hF b hb hh.1, hh.2⟩)⟩
end
section
variable {B : Nat} {t : TypeId} {w w' : World} {g : Nat} {zs : List Zp}
/-- A zone of no bytes. -/
def zero4 : Zp := ⟨0, 0, 0, []⟩
theorem Zo.made (w : World) (n : Nat) (t : TypeId) :
    Zo w.heap.size t (w.alloc (.cells (madeCells #[.int .i64 0, .int .i64 0, .slice none 0 0, .int .i64 0] (n * 4)) t)) w.heap.size (List.replicate n zero4) := by
  have hb := Blk.new w (madeCells #[.int .i64 0, .int .i64 0, .slice none 0 0, .int .i64 0] (n * 4)) t
  refine ⟨Nat.le_refl _, ⟨_, by simp [size_madeCells], hb⟩, fun i z hi => ?_⟩
  rw [List.getElem?_replicate] at hi
  split at hi
  · rename_i hin
    cases hi
    have hx : ∀ j, j < 4 → (w.alloc (.cells (madeCells #[.int .i64 0, .int .i64 0, .slice none 0 0, .int .i64 0] (n * 4)) t)).cell? ⟨w.heap.size, i * 4 + j, none⟩ = (#[Value.int .i64 0, .int .i64 0, .slice none 0 0, .int .i64 0] : Array Value)[j]? := fun j hj => by
      rw [hb.cell]
      have e : (i * 4 + j) % 4 = j := by omega
      simp only [madeCells, Array.getElem?_map]
      rw [Array.getElem?_range, if_pos (by omega)]
      simp only [Option.map_some]
      show some ((#[Value.int .i64 0, .int .i64 0, .slice none 0 0, .int .i64 0] : Array Value)[(i * 4 + j) % 4]!) = _
      rw [e]
      rcases j with _ | _ | _ | _ | j
      all_goals first | rfl | omega
    exact ⟨none, 0, hx 0 (by omega), hx 1 (by omega), hx 2 (by omega), hx 3 (by omega), Sl.nil _, fun h => absurd h (by simp [zero4])⟩
  · cases hi
theorem Zo.made_at (w : World) (n : Nat) (t : TypeId) (g : Nat) (hg : w.heap.size = g) (B : Nat) (hB : B ≤ g) :
    Zo B t (w.alloc (.cells (madeCells #[.int .i64 0, .int .i64 0, .slice none 0 0, .int .i64 0] (n * 4)) t)) g (List.replicate n zero4) := by
  subst hg
  exact (Zo.made w n t).mono hB
end
end Go.Wag
namespace Go.Wag
open Go.RowKit Go.ChangeShapes Go.WideShapes Go.Deep
set_option linter.unusedVariables false
set_option maxRecDepth 20000

theorem array5 {cs : Array Value} (h : cs.size = 5) : ∃ a b c d e, cs = #[a, b, c, d, e] := by
  obtain ⟨l⟩ := cs
  match l, h with
  | [a, b, c, d, e], _ => exact ⟨a, b, c, d, e, rfl⟩

section
variable {H : Type} {enc : TypeId × Value → H} {P : Program} {w : World} {base : Nat} {held : Bool}
theorem open_agg5 {r : Reach} {b0 : Nat} {t : TypeId} {f0 f1 f2 f3 f4 : Field} {v : Value} {d : DataW H} {p : List MemPlace} {spare : Nat → Bool} (hs : P.underlying t = some (.struct #[f0, f1, f2, f3, f4])) (hone : oneCellFields P #[f0, f1, f2, f3, f4] = true) (hC : P.cellsOf t = 5)
    (hv : Value.okWide P w r b0 t v) (h : DataW.Trod enc P w base spare held t v d p) :
    ∃ (v0 v1 v2 v3 v4 : Value) (y0 y1 y2 y3 y4 : DataW H × List MemPlace) (n : Nat), v = .agg #[v0, v1, v2, v3, v4] ∧ True ∧ True ∧
      DataW.trod enc P w base spare held n f0.type [v0] = some y0 ∧ DataW.trod enc P w base spare held n f1.type [v1] = some y1 ∧ DataW.trod enc P w base spare held n f2.type [v2] = some y2 ∧ DataW.trod enc P w base spare held n f3.type [v3] = some y3 ∧ DataW.trod enc P w base spare held n f4.type [v4] = some y4 := by
  obtain ⟨cs, rfl, hsz⟩ := okWide_struct hs hv
  obtain ⟨c0, c1, c2, c3, c4, rfl⟩ := array5 (hsz.trans hC)
  obtain ⟨fuel, hf⟩ := h
  obtain ⟨xs, n, _, _, _, hl, hi⟩ := DataW.trod_struct hs hf
  have hl5 : xs.length = 5 := hl
  have hx : ∀ i (hi : i < 5), xs[i]? = some (xs[i]'(by omega)) := fun i hi => List.getElem?_eq_getElem (by omega)
  obtain ⟨o0, k0⟩ := hone_of hone 0 f0 rfl
  obtain ⟨o1, k1⟩ := hone_of hone 1 f1 rfl
  obtain ⟨o2, k2⟩ := hone_of hone 2 f2 rfl
  obtain ⟨o3, k3⟩ := hone_of hone 3 f3 rfl
  obtain ⟨o4, k4⟩ := hone_of hone 4 f4 rfl
  have g0 := (hi 0 f0 rfl).trans (hx 0 (by omega))
  have g1 := (hi 1 f1 rfl).trans (hx 1 (by omega))
  have g2 := (hi 2 f2 rfl).trans (hx 2 (by omega))
  have g3 := (hi 3 f3 rfl).trans (hx 3 (by omega))
  have g4 := (hi 4 f4 rfl).trans (hx 4 (by omega))
  rw [o0, k0] at g0
  rw [o1, k1] at g1
  rw [o2, k2] at g2
  rw [o3, k3] at g3
  rw [o4, k4] at g4
  exact ⟨c0, c1, c2, c3, c4, _, _, _, _, _, n, rfl, trivial, trivial, g0, g1, g2, g3, g4⟩

/-- A field that is a slice of structs. -/
theorem isSts_of_field {t e : TypeId} {fs : Array Field} {ms : List Fm} {v : Value} {fuel : Nat} {x : DataW H × List MemPlace} (ht : P.underlying t = some (.slice e)) (he : P.underlying e = some (.struct fs)) (hone : oneCellFields P fs = true) (hC : P.cellsOf e = fs.size)
    (hF : FmsOk P fs.toList ms) (h : DataW.trod enc P w base (fun _ => true) held fuel t [v] = some x) : ∃ a len cap, v = .slice a len cap ∧ IsSts ms w a len cap := by
  obtain ⟨a, len, cap, rfl⟩ : ∃ a len cap, v = .slice a len cap := by
    rcases open_slice ht h with ⟨hcs, _⟩ | ⟨ad, l, c, m, n, D, Pl, hcs, _⟩
    · exact ⟨none, 0, 0, by simpa using hcs⟩
    · exact ⟨some ad, l, c, by simpa using hcs⟩
  exact ⟨a, len, cap, rfl, isSts_of_trod ht he hone hC hF ⟨fuel, by simpa [Value.cells] using h⟩⟩
end

theorem list_of {α : Type} {Q : Nat → α → Prop} : ∀ n : Nat, (∀ i, i < n → ∃ z, Q i z) → ∃ l : List α, l.length = n ∧ ∀ i z, l[i]? = some z → Q i z
  | 0, _ => ⟨[], rfl, fun i z h => by simp at h⟩
  | n + 1, h => by
    obtain ⟨l, hl, hq⟩ := list_of n (fun i hi => h i (by omega))
    obtain ⟨z, hz⟩ := h n (by omega)
    refine ⟨l ++ [z], by simp [hl], fun i x hx => ?_⟩
    by_cases hi : i < n
    · rw [List.getElem?_append_left (by omega)] at hx
      exact hq i x hx
    · rw [List.getElem?_append_right (by omega)] at hx
      have h0 : i - l.length = 0 := by
        have := (List.getElem?_eq_some_iff.1 hx).1
        simp at this
        omega
      rw [h0] at hx
      obtain rfl : i = n := by omega
      cases hx
      exact hz

/-- A slice of zones that came in. -/
theorem zs_of_sts {w : World} {a : Option Addr} {len cap : Nat} (h : IsSts [.num .i64, .num .i64, .row .u8, .num .i64] w a len cap) : ∃ zs, Zs (fun b => b < w.heap.size) w a len cap zs := by
  rcases h with ⟨rfl, rfl, rfl⟩ | ⟨ad, rfl, hl, hm, hc⟩
  · exact ⟨[], Zs.nil _ _⟩
  · have hm2 : cap ≤ 9223372036854775807 := by simpa [maxLen] using hm
    rcases Nat.eq_zero_or_pos len with h0 | h0
    · subst h0
      exact ⟨[], rfl, hl, hm2, fun h => absurd h (by omega)⟩
    · obtain ⟨g, o, sp⟩ := ad
      have hg : g < w.heap.size := by
        obtain ⟨v, cz, _⟩ := hc 0 h0 0 _ rfl
        by_cases hx : g < w.heap.size
        · exact hx
        · exfalso
          unfold World.cell? at cz
          rw [add_block, Array.getElem?_eq_none (by simp; omega)] at cz
          cases cz
      cases sp with
      | some sp =>
        exfalso
        obtain ⟨v, cz, _⟩ := hc 0 h0 0 _ rfl
        unfold World.cell? at cz
        split at cz
        · simp [Addr.add] at cz
        · cases cz
      | none =>
        obtain ⟨zs, hzl, hz⟩ := list_of (Q := fun i z => ZAt (fun b => b < w.heap.size) w g (o + i * 4) z) len (fun i hi => by
          obtain ⟨v0, c0, st, rfl, _⟩ := hc i hi 0 _ rfl
          obtain ⟨v1, c1, rs, rfl, _⟩ := hc i hi 1 _ rfl
          obtain ⟨v2, c2, Ab, nb, cb, zz, rfl, hr⟩ := hc i hi 2 _ rfl
          obtain ⟨v3, c3, la, rfl, _⟩ := hc i hi 3 _ rfl
          obtain ⟨b, hb⟩ := hr.bytes
          obtain rfl : b.length = nb := hb.len8
          refine ⟨⟨st, rs, la, b⟩, Ab, cb, ?_, ?_, ?_, ?_, hb, fun hn ad e => ?_⟩
          · rw [Addr.add_lit] at c0; exact c0
          · rw [Addr.add_lit, ← Nat.add_assoc] at c1; exact c1
          · rw [Addr.add_lit, ← Nat.add_assoc] at c2; exact c2
          · rw [Addr.add_lit, ← Nat.add_assoc] at c3; exact c3
          · obtain ⟨ad', e', hb', _⟩ := hb.cells hn
            cases e.symm.trans e'
            exact hb')
        exact ⟨zs, hzl, hl, hm2, fun _ => ⟨g, o, rfl, hg, hg, hz⟩⟩
/-- A slice of integers that came in. -/
theorem ints_of_row {w : World} {a : Option Addr} {len cap : Nat} {zs : List Int} (h : IsRow .i64 w a len cap zs) : ∃ ks : List Int, Sl w a len cap (ks.map (Value.int .i64)) ∧ ∀ x ∈ ks, -9223372036854775808 ≤ x ∧ x < 9223372036854775808 := by
  obtain ⟨hs, hw⟩ := h.cells
  exact ⟨zs.take len, hs, fun x hx => wf_i64 (hw x hx)⟩
end Go.Wag
namespace Go.Wag
open Go.RowKit
set_option linter.unusedVariables false
set_option maxRecDepth 20000

/-- What elements of a slice are: how many cells, and how they read, in blocks that meet F. -/
structure Elt (α : Type) where
  k : Nat
  rd : (Nat → Prop) → World → List Value → α → Prop
  pos : 0 < k
  len : ∀ {F : Nat → Prop} {w : World} {vs : List Value} {x : α}, rd F w vs x → vs.length = k
  keep : ∀ {F : Nat → Prop} {w w' : World} {vs : List Value} {x : α}, rd F w vs x → w.heap.size ≤ w'.heap.size → (∀ p : Addr, p.block < w.heap.size → F p.block → w'.cell? p = w.cell? p) → rd F w' vs x
  imp : ∀ {F F' : Nat → Prop} {w : World} {vs : List Value} {x : α}, rd F w vs x → (∀ b, b < w.heap.size → F b → F' b) → rd F' w vs x

/-- '.slice A n c' reads as the elements xs, all of it in blocks that meet F. -/
structure Rs {α : Type} (E : Elt α) (F : Nat → Prop) (w : World) (A : Option Addr) (n c : Nat) (xs : List α) : Prop where
  len : xs.length = n
  cap : n ≤ c
  big : c ≤ 9223372036854775807
  cells : 0 < n → ∃ g o, A = some ⟨g, o, none⟩ ∧ F g ∧ g < w.heap.size ∧ ∀ i x, xs[i]? = some x → ∃ vs, E.rd F w vs x ∧ ∀ j v, vs[j]? = some v → w.cell? ⟨g, o + i * E.k + j, none⟩ = some v

section
variable {α : Type} {E : Elt α} {F : Nat → Prop} {w w' : World} {A : Option Addr} {n c : Nat} {xs : List α}
theorem Elt.below {vs : List Value} {x : α} (h : E.rd F w vs x) (hb : Below w.heap.size w w') : E.rd F w' vs x := E.keep h hb.size fun _ hp _ => hb.cell hp
theorem Rs.keep (h : Rs E F w A n c xs) (hs : w.heap.size ≤ w'.heap.size) (hk : ∀ p : Addr, p.block < w.heap.size → F p.block → w'.cell? p = w.cell? p) : Rs E F w' A n c xs :=
  ⟨h.len, h.cap, h.big, fun hn => by
    obtain ⟨g, o, e, hF, hg, hc⟩ := h.cells hn
    refine ⟨g, o, e, hF, by omega, fun i x hx => ?_⟩
    obtain ⟨vs, hr, hv⟩ := hc i x hx
    exact ⟨vs, E.keep hr hs hk, fun j v hj => (hk ⟨g, _, none⟩ hg hF).trans (hv j v hj)⟩⟩
theorem Rs.below (h : Rs E F w A n c xs) (hb : Below w.heap.size w w') : Rs E F w' A n c xs := h.keep hb.size fun _ hp _ => hb.cell hp
theorem Rs.alloc (h : Rs E F w A n c xs) (o : Obj) : Rs E F (w.alloc o) A n c xs := h.below ((Below.refl _ _).alloc (Nat.le_refl _) o)
theorem Rs.drew (h : Rs E F w A n c xs) : Rs E F w.drew A n c xs := h.below (Below.refl _ _).drew
theorem Rs.far (h : Rs E F w A n c xs) {a : Addr} (ha : ¬ F a.block) (u : Value) : Rs E F (w.setCell a u) A n c xs :=
  h.keep (by simp [World.setCell]) fun p _ hF => cell_far w u (fun e => ha (e ▸ hF))
theorem Rs.imp {F' : Nat → Prop} (h : Rs E F w A n c xs) (hF : ∀ b, b < w.heap.size → F b → F' b) : Rs E F' w A n c xs :=
  ⟨h.len, h.cap, h.big, fun hn => by
    obtain ⟨g, o, e, hG, hg, hc⟩ := h.cells hn
    refine ⟨g, o, e, hF g hg hG, hg, fun i x hx => ?_⟩
    obtain ⟨vs, hr, hv⟩ := hc i x hx
    exact ⟨vs, E.imp hr hF, hv⟩⟩
theorem Rs.nil (E : Elt α) (F : Nat → Prop) (w : World) : Rs E F w none 0 0 [] := ⟨rfl, Nat.le_refl _, by omega, fun h => absurd h (by omega)⟩
/-- The element at i. -/
theorem Rs.at_ (h : Rs E F w A n c xs) {i : Nat} (hi : i < n) : ∃ g o x vs, A = some ⟨g, o, none⟩ ∧ F g ∧ g < w.heap.size ∧ xs[i]? = some x ∧ E.rd F w vs x ∧ ∀ j v, vs[j]? = some v → w.cell? ⟨g, o + i * E.k + j, none⟩ = some v := by
  obtain ⟨g, o, e, hF, hg, hc⟩ := h.cells (by omega)
  have hl : i < xs.length := by have := h.len; omega
  obtain ⟨vs, hr, hv⟩ := hc i _ (List.getElem?_eq_getElem hl)
  exact ⟨g, o, xs[i], vs, e, hF, hg, List.getElem?_eq_getElem hl, hr, hv⟩
/-- 's[:m]'. -/
theorem Rs.upto (h : Rs E F w A n c xs) {m : Nat} (hm : m ≤ n) : Rs E F w A m c (xs.take m) := by
  refine ⟨by rw [List.length_take, h.len]; omega, by have := h.cap; omega, h.big, fun hn => ?_⟩
  obtain ⟨g, o, e, hF, hg, hc⟩ := h.cells (by omega)
  refine ⟨g, o, e, hF, hg, fun i x hx => hc i x ?_⟩
  rw [List.getElem?_take] at hx
  split at hx
  · exact hx
  · cases hx
end

/-- A row of structs that is appended to: its cells in a block of one's own (from B on), what they reach in others that meet F. -/
structure Rq {α : Type} (E : Elt α) (F : Nat → Prop) (B : Nat) (t : TypeId) (w : World) (A : Option Addr) (n c : Nat) (xs : List α) : Prop where
  len : xs.length = n
  row : ∃ cs, w.ownsRow B t E.k (.slice A n c) n cs ∧ ∀ i x, xs[i]? = some x → ∃ vs, E.rd (fun b => F b ∧ (Value.slice A n c).ownBlock ≠ some b) w vs x ∧ ∀ j v, vs[j]? = some v → cs[i * E.k + j]? = some v

section
variable {α : Type} {E : Elt α} {F : Nat → Prop} {B : Nat} {t : TypeId} {w w' : World} {A : Option Addr} {n c : Nat} {xs : List α}
theorem Rq.nil (E : Elt α) (F : Nat → Prop) (B : Nat) (t : TypeId) (w : World) : Rq E F B t w none 0 0 [] := ⟨rfl, [], World.ownsRow_nil _ _ _ _, fun i z h => by simp at h⟩
theorem Rq.under (h : Rq E F B t w A n c xs) (hb : Below w.heap.size w w') : Rq E F B t w' A n c xs := by
  obtain ⟨cs, hx, hz⟩ := h.row
  refine ⟨h.len, cs, hx.kept (only_of hb none) (by cases hv : Value.ownBlock (.slice A n c) <;> simp), fun i x hi => ?_⟩
  obtain ⟨vs, hr, hv⟩ := hz i x hi
  exact ⟨vs, Elt.below hr hb, hv⟩
theorem Rq.below (h : Rq E F B t w A n c xs) (hb : Below w.heap.size w w') : Rq E F B t w' A n c xs := h.under hb
theorem Rq.drew (h : Rq E F B t w A n c xs) : Rq E F B t w.drew A n c xs := h.under (Below.refl _ _).drew
theorem Rq.alloc (h : Rq E F B t w A n c xs) (o : Obj) : Rq E F B t (w.alloc o) A n c xs := h.under ((Below.refl _ _).alloc (Nat.le_refl _) o)
theorem Rq.lt (h : Rq E F B t w A n c xs) : ∀ b, (Value.slice A n c).ownBlock = some b → B ≤ b ∧ b < w.heap.size := fun b hb => by
  obtain ⟨xs, hx, _⟩ := h.row
  exact hx.lt b hb
/-- Growth of another row, or a store elsewhere. -/
theorem Rq.grown (h : Rq E F B t w A n c xs) {row : Option Nat} (hg : w.grownBy w' row) (ho : ∀ b, (Value.slice A n c).ownBlock = some b → row ≠ some b) (hF : ∀ b, b < w.heap.size → F b → row ≠ some b) : Rq E F B t w' A n c xs := by
  obtain ⟨cs, hx, hz⟩ := h.row
  refine ⟨h.len, cs, hx.kept hg ?_, fun i x hi => ?_⟩
  · cases hv : Value.ownBlock (.slice A n c) with
    | none => exact .inl rfl
    | some b => exact .inr (fun e => ho b hv e.symm)
  · obtain ⟨vs, hr, hv⟩ := hz i x hi
    exact ⟨vs, E.keep hr hg.size (fun p hp hFp => World.cell?_of_block (hg.block _ hp (fun e => hF _ hp hFp.1 e.symm))), hv⟩
theorem Rq.imp {F' : Nat → Prop} (h : Rq E F B t w A n c xs) (hF : ∀ b, b < w.heap.size → F b → F' b) : Rq E F' B t w A n c xs := by
  obtain ⟨cs, hx, hz⟩ := h.row
  refine ⟨h.len, cs, hx, fun i x hi => ?_⟩
  obtain ⟨vs, hr, hv⟩ := hz i x hi
  exact ⟨vs, E.imp hr (fun b hb hh => ⟨hF b hb hh.1, hh.2⟩), hv⟩
/-- One element more. -/
theorem Rq.app {P : Program} (h : Rq E F B t w A n c xs) {T ty : TypeId} {i0 : TypeInfo} {z : Value} {bytes : Nat} (hT : P.underlying T = some (.slice t)) (hi : P.info? t = some i0) (hz : i0.zero = some z) (hsz : i0.size = E.k) (hby : i0.bytes = bytes) (hzs : z.cells.size = E.k)
    (hB : B ≤ w.heap.size) (hn : (n + 1) * bytes ≤ 140737488355328) (hn2 : n + 1 ≤ 9223372036854775807) {x : α} {vs : List Value} {s : Nat} {ts : TypeId} (hx : E.rd (fun b => F b ∧ (Value.slice A n c).ownBlock ≠ some b) w vs x) (h1 : ∀ u ∈ vs, u.oneCell' = true) (Bs : Blk w s vs.toArray ts) :
    ∃ A' c' w', (Builtin.append_ #[T, T] ty #[.slice A n c, .slice (some ⟨s, 0, none⟩) 1 1]).run P w = .ok (.slice A' (n + 1) c') w' ∧ Rq E F B t w' A' (n + 1) c' (xs ++ [x]) ∧ w.grownBy w' (Value.slice A n c).ownBlock ∧
      ((Value.slice A' (n + 1) c').ownBlock = (Value.slice A n c).ownBlock ∨ (Value.slice A' (n + 1) c').ownBlock = some w.heap.size) := by
  obtain ⟨cs, hc, hz0⟩ := h.row
  have hvl := E.len hx
  obtain ⟨v', w', hr, h2, h3, _, h5⟩ := run_append_own_at (P := P) w B T ty t i0 z E.k bytes hT hi hz hsz hby hzs E.pos (.slice A n c) n cs hc ⟨s, 0, none⟩ 1 1 vs (by omega)
    (fun j u hu => by
      have e : ((⟨s, 0, none⟩ : Addr).add j) = ⟨s, j, none⟩ := by unfold Addr.add; split <;> simp_all
      rw [e, Bs.cell]
      simpa using hu) h1 (by simp only [maxLen]; omega) hn hB
  obtain ⟨A', c', rfl⟩ := own_form h2
  have hxl : cs.length = n * E.k := hc.1
  have hl := h.len
  have step : ∀ {ys : List Value} {y : α}, E.rd (fun b => F b ∧ (Value.slice A n c).ownBlock ≠ some b) w ys y → E.rd (fun b => F b ∧ (Value.slice A' (n + 1) c').ownBlock ≠ some b) w' ys y := fun {ys y} hy => by
    have k1 : E.rd (fun b => F b ∧ (Value.slice A n c).ownBlock ≠ some b ∧ (Value.slice A' (n + 1) c').ownBlock ≠ some b) w ys y := E.imp hy (fun b hb hh => ⟨hh.1, hh.2, by
      rcases h5 with e | e
      · rw [e]; exact hh.2
      · rw [e]; intro e2; have := Option.some.inj e2; omega⟩)
    exact E.imp (E.keep k1 h3.size (fun p hp hF => World.cell?_of_block (h3.block _ hp (fun e => hF.2.1 e.symm)))) (fun b _ hh => ⟨hh.1, hh.2.2⟩)
  refine ⟨A', c', w', hr, ⟨by simp [hl], _, h2, fun i y hi => ?_⟩, h3, h5⟩
  by_cases hin : i < n
  · rw [List.getElem?_append_left (by omega)] at hi
    obtain ⟨ys, hy, hv⟩ := hz0 i y hi
    refine ⟨ys, step hy, fun j v hj => ?_⟩
    have hjl := (List.getElem?_eq_some_iff.1 hj).1
    rw [E.len hy] at hjl
    have : i * E.k + j < n * E.k := by
      have : (i + 1) * E.k ≤ n * E.k := Nat.mul_le_mul_right _ hin
      rw [Nat.add_mul] at this
      omega
    rw [List.getElem?_append_left (by omega)]
    exact hv j v hj
  · have hi2 := (List.getElem?_eq_some_iff.1 hi).1
    obtain rfl : i = n := by simp at hi2; omega
    rw [List.getElem?_append_right (by omega), hl, Nat.sub_self] at hi
    cases hi
    refine ⟨vs, step hx, fun j v hj => ?_⟩
    rw [List.getElem?_append_right (by omega), hxl, Nat.add_sub_cancel_left]
    exact hj
theorem Rq.toRs (h : Rq E F B t w A n c xs) (hF : ∀ b, b < w.heap.size → B ≤ b → F b) : Rs E F w A n c xs := by
  obtain ⟨cs, hx, hz⟩ := id h.row
  rcases hx.2 with ⟨hv, rfl⟩ | ⟨g, cap, cur, hv, hB, hg, hnc, hm, _⟩
  · obtain ⟨rfl, -, rfl⟩ : A = none ∧ 0 = 0 ∧ c = 0 := by simpa using hv
    exact ⟨h.len, Nat.le_refl _, by omega, fun h => absurd h (by omega)⟩
  · obtain ⟨rfl, rfl⟩ : A = some ⟨g, 0, none⟩ ∧ c = cap := by simpa using hv
    have hgl := (Array.getElem?_eq_some_iff.1 hg).1
    refine ⟨h.len, hnc, by simpa [maxLen] using hm, fun _ => ⟨g, 0, rfl, hF g hgl hB, hgl, fun i x hi => ?_⟩⟩
    obtain ⟨vs, hr, hv⟩ := hz i x hi
    refine ⟨vs, E.imp hr (fun b _ hb => hb.1), fun j v hj => ?_⟩
    have e : ∀ j, ((⟨g, 0, none⟩ : Addr).add j) = ⟨g, j, none⟩ := fun j => by unfold Addr.add; split <;> simp_all
    rw [Nat.zero_add, ← e]
    exact hx.cells (g := g) rfl _ _ (hv j v hj)
end

/-- 'append' in a plain region, by its run (the walk stops behind it). -/
theorem wpList_run {P : Program} {ops : Array Oper} {rest : List Oper} {o : Oper} {a : Act} {w w' : World} {Q : Exit → Act → World → Prop} {v u : Value} {A : Option Addr} {m c : Nat} (hgd : o.guard = none) (s x : Operand) (t : TypeId)
    (ho : o.op = .call { callee := .builtin .append, args := #[s, x], argTypes := #[t, t] }) (hs : a.eval s = v) (hx : a.eval x = .slice A m c)
    (hr : (Builtin.append_ #[t, t] o.type #[v, .slice A m c]).run P w = .ok u w') (hgo : True → wpList P ops Q rest (a.put o.dst u) w') : wpList P ops Q (o :: rest) a w :=
  wpList_plain hgd fun K hK => wp_app s x t ho hs hx hr (hK _ _ (hgo trivial))
end Go.Wag
namespace Go.Wag

/-- A number of 32 bits as a cell. -/
def v32 (x : W32) : Value := .int .u32 (x.toNat : Int)

/-- What four steps do to numbers below 16, as the program's table has it. -/
def tab16 : List Int := [0, 274646895, 549293790, 820201905, 1098587580, 1361435347, 1640403810, 1905808397, 2197175160, 2460548119, 2722870694, 2987750089, 3280807620, 3553878443, 3811616794, 4084100981]
theorem tab_nat (i : Nat) (h : i < 16) : tab16.getD i 0 = ((steps 4 (BitVec.ofNat 32 i)).toNat : Int) := by
  have : ∀ j : Fin 16, tab16.getD j.val 0 = ((steps 4 (BitVec.ofNat 32 j.val)).toNat : Int) := by decide +kernel
  exact this ⟨i, h⟩

theorem and15_bit (v : W32) (i : Nat) : (v &&& 15#32).getLsbD i = (decide (i < 4) && v.getLsbD i) := by
  rw [BitVec.getLsbD_and, Bool.and_comm]
  congr 1
  by_cases h : i < 32
  · have : ∀ j : Fin 32, (15#32).getLsbD j.val = decide (j.val < 4) := by decide
    exact this ⟨i, h⟩
  · rw [BitVec.getLsbD_of_ge _ _ (by omega)]
    have : ¬ i < 4 := by omega
    simp [this]
theorem steps4_split (v : W32) : steps 4 v = (v >>> 4) ^^^ steps 4 (v &&& 15#32) := by
  have e : v = (v &&& 15#32) ^^^ (v ^^^ (v &&& 15#32)) := by
    rw [BitVec.xor_comm v, ← BitVec.xor_assoc, BitVec.xor_self, BitVec.zero_xor]
  have h : steps 4 (v ^^^ (v &&& 15#32)) = v >>> 4 := by
    rw [steps_low 4 _ (fun i hi => by rw [BitVec.getLsbD_xor, and15_bit]; simp [hi]), BitVec.ushiftRight_xor_distrib]
    have : (v &&& 15#32) >>> 4 = 0#32 := by
      apply BitVec.eq_of_getLsbD_eq
      intro i hi
      rw [BitVec.getLsbD_ushiftRight, and15_bit]
      have : ¬ 4 + i < 4 := by omega
      simp [this]
    rw [this, BitVec.xor_zero]
  conv => lhs; rw [e]
  rw [steps_xor, h, BitVec.xor_comm]
theorem w32i (x : W32) : (x.toNat : Int) < 4294967296 := by have := x.isLt; omega
theorem w32n (x : W32) : x.toNat < 4294967296 := x.isLt
theorem xor32 (x y : W32) : bits .xor .u32 (x.toNat : Int) (y.toNat : Int) = ((x ^^^ y).toNat : Int) := by
  rw [u32_xor_nat _ _ (w32n x) (w32n y), BitVec.toNat_xor]
theorem and32 (x y : W32) : bits .and .u32 (x.toNat : Int) (y.toNat : Int) = ((x &&& y).toNat : Int) := by
  rw [u32_and_nat _ _ (w32n x) (w32n y), BitVec.toNat_and]
theorem shr32 (x : W32) (k : Nat) (q : Int) (hq : ((2 ^ k : Nat) : Int) = q) : (x.toNat : Int) / q = ((x >>> k).toNat : Int) := by
  subst hq
  rw [BitVec.toNat_ushiftRight, Nat.shiftRight_eq_div_pow]
  rfl
theorem and15_lt (x : W32) : (x &&& 15#32).toNat < 16 := by
  rw [BitVec.toNat_and]
  exact Nat.lt_of_le_of_lt Nat.and_le_right (by decide)
/-- Half a byte of More. -/
theorem half32 (x : W32) : bits .xor .u32 ((x.toNat : Int) / 16) (tab16.getD (x &&& 15#32).toNat 0) = ((steps 4 x).toNat : Int) := by
  rw [tab_nat _ (and15_lt x), shr32 x 4 16 rfl, xor32, steps4_split x, BitVec.ofNat_toNat, BitVec.setWidth_eq]
theorem b32_nat (c : UInt8) : (b32 c).toNat = c.toNat := by
  have := c.toNat_lt
  simp only [b32, BitVec.toNat_ofNat]
  omega
theorem raw_snoc (x : W32) (l : List UInt8) (c : UInt8) : raw x (l ++ [c]) = steps 8 (raw x l ^^^ b32 c) := by rw [raw_append]; rfl

/-- A product of polynomials over bits, the highest bit the constant. -/
def prodN : Nat → W32 → W32 → W32
  | 0, _, _ => 0#32
  | k + 1, a, b => (if a.msb then b else 0#32) ^^^ prodN k (a <<< 1) (step1 b)
theorem prodN_zero : ∀ (k : Nat) (b : W32), prodN k 0#32 b = 0#32
  | 0, _ => rfl
  | k + 1, b => by
    rw [prodN, BitVec.zero_shiftLeft, prodN_zero k, BitVec.xor_zero]
    exact if_neg (by decide)
theorem step1_steps (n : Nat) (b : W32) : step1 (steps n b) = steps n (step1 b) := by
  have h1 := steps_add n 1 b
  have h2 := steps_add 1 n b
  rw [Nat.add_comm] at h1
  rw [h1] at h2
  exact h2
theorem prodN_steps (n : Nat) : ∀ (k : Nat) (a b : W32), prodN k a (steps n b) = steps n (prodN k a b)
  | 0, _, _ => (steps_zero n).symm
  | k + 1, a, b => by
    rw [prodN, prodN, steps_xor, step1_steps, prodN_steps n k]
    congr 1
    cases a.msb
    · exact (steps_zero n).symm
    · rfl
theorem step1_top (j : Nat) (h : j < 31) : step1 (0x80000000#32 >>> j) = 0x80000000#32 >>> (j + 1) := by
  have : ∀ i : Fin 31, step1 (0x80000000#32 >>> i.val) = 0x80000000#32 >>> (i.val + 1) := by decide +kernel
  exact this ⟨j, h⟩
theorem top_bit (j i : Nat) : (0x80000000#32 >>> j).getLsbD i = decide (i + j = 31) := by
  rw [BitVec.getLsbD_ushiftRight]
  by_cases h : j + i < 32
  · have : ∀ m : Fin 32, (0x80000000#32).getLsbD m.val = decide (m.val = 31) := by decide
    have := this ⟨j + i, h⟩
    simp only at this
    rw [this, decide_eq_decide]
    omega
  · rw [BitVec.getLsbD_of_ge _ _ (by omega)]
    have : ¬ i + j = 31 := by omega
    simp [this]
theorem prodN_top : ∀ (k j : Nat) (a : W32), j + k = 32 → prodN k a (0x80000000#32 >>> j) = a >>> j
  | 0, j, a, h => by
    obtain rfl : j = 32 := by omega
    apply BitVec.eq_of_getLsbD_eq
    intro i hi
    rw [BitVec.getLsbD_ushiftRight, BitVec.getLsbD_of_ge a _ (by omega)]
    exact BitVec.getLsbD_zero
  | k + 1, j, a, h => by
    have e : prodN k (a <<< 1) (step1 (0x80000000#32 >>> j)) = (a <<< 1) >>> (j + 1) := by
      by_cases hj : j < 31
      · rw [step1_top j hj]
        exact prodN_top k (j + 1) (a <<< 1) (by omega)
      · obtain rfl : k = 0 := by omega
        obtain rfl : j = 31 := by omega
        apply BitVec.eq_of_getLsbD_eq
        intro i hi
        rw [BitVec.getLsbD_ushiftRight, BitVec.getLsbD_of_ge (a <<< 1) _ (by omega)]
        exact BitVec.getLsbD_zero
    rw [prodN, e]
    apply BitVec.eq_of_getLsbD_eq
    intro i hi
    rw [BitVec.getLsbD_xor, BitVec.getLsbD_ushiftRight, BitVec.getLsbD_ushiftRight, BitVec.getLsbD_shiftLeft, BitVec.msb_eq_getLsbD_last]
    by_cases hij : i + j = 31
    · have h1 : j + i = 31 := by omega
      have h2 : ¬ j + 1 + i < 32 := by omega
      have h3 : decide (j + 1 + i < 32) = false := by simpa using h2
      show Bool.xor ((if a.getLsbD 31 then 0x80000000#32 >>> j else 0#32 : W32).getLsbD i) _ = _
      rw [h3, h1]
      cases hb : a.getLsbD 31
      · rw [if_neg (by simp), BitVec.getLsbD_zero]; rfl
      · rw [if_pos rfl, top_bit j i]; simp [hij]
    · have h0 : (if a.getLsbD (32 - 1) then 0x80000000#32 >>> j else 0#32 : W32).getLsbD i = false := by
        split
        · rw [top_bit j i]; simp [hij]
        · simp
      rw [h0, Bool.false_xor]
      by_cases h3 : j + 1 + i < 32
      · have h4 : j + 1 + i - 1 = j + i := by omega
        have h5 : ¬ j + 1 + i < 1 := by omega
        simp [h3, h4, h5]
      · have h4 : 32 ≤ j + i := by omega
        rw [BitVec.getLsbD_of_ge a _ h4]
        simp [h3]
/-- A product by so many steps of the constant is so many steps. -/
theorem prodN_all (a : W32) (m : Nat) : prodN 32 a (steps m 0x80000000#32) = steps m a := by
  rw [prodN_steps]
  have := prodN_top 32 0 a rfl
  rw [BitVec.ushiftRight_zero, BitVec.ushiftRight_zero] at this
  rw [this]
theorem steps8_top : steps 8 0x80000000#32 = 0x800000#32 := by decide +kernel
/-- A round of the program's Join. -/
theorem join_odd {m left n : Nat} {a a0 : W32} (h : steps (m * left) a = steps n a0) (ho : left % 2 = 1) : steps ((m + m) * (left / 2)) (steps m a) = steps n a0 := by
  rw [← h, ← steps_add]
  congr 1
  have e : left = 2 * (left / 2) + 1 := by omega
  generalize left / 2 = q at *
  subst e
  rw [Nat.mul_add, Nat.mul_one, Nat.add_mul, ← Nat.mul_assoc, Nat.mul_comm m 2, Nat.two_mul, Nat.add_mul, Nat.add_comm m]
theorem join_even {m left n : Nat} {a a0 : W32} (h : steps (m * left) a = steps n a0) (ho : left % 2 = 0) : steps ((m + m) * (left / 2)) a = steps n a0 := by
  rw [← h]
  congr 1
  have e : left = 2 * (left / 2) := by omega
  generalize left / 2 = q at *
  subst e
  rw [← Nat.mul_assoc, Nat.mul_comm m 2, Nat.two_mul]

theorem odd32 (x : W32) : (bits .and .u32 (x.toNat : Int) 1 == 1) = x.getLsbD 0 := by
  have e : bits .and .u32 (x.toNat : Int) 1 = ((x &&& 1#32).toNat : Int) := and32 x 1#32
  rw [e, BitVec.toNat_and]
  have h1 : x.toNat &&& (1#32).toNat = x.toNat % 2 := Nat.and_one_is_mod _
  rw [h1, Bool.eq_iff_iff, beq_iff_eq]
  simp only [BitVec.getLsbD, Nat.testBit_zero, decide_eq_true_eq]
  omega
theorem step_odd32 (x : W32) (h : (bits .and .u32 (x.toNat : Int) 1 == 1) = true) : bits .xor .u32 ((x.toNat : Int) / 2) 2197175160 = ((step1 x).toNat : Int) := by
  rw [odd32] at h
  have e : step1 x = (x >>> 1) ^^^ 0x82f63b78#32 := by unfold step1; rw [if_pos h]
  rw [e, shr32 x 1 2 rfl]
  exact xor32 (x >>> 1) 0x82f63b78#32
theorem step_even32 (x : W32) (h : (bits .and .u32 (x.toNat : Int) 1 == 1) = false) : (x.toNat : Int) / 2 = ((step1 x).toNat : Int) := by
  rw [odd32] at h
  have e : step1 x = x >>> 1 := by unfold step1; rw [h]; simp
  rw [e, shr32 x 1 2 rfl]
theorem shl32 (x : W32) : (x.toNat : Int) * 2 % 4294967296 = ((x <<< 1).toNat : Int) := by
  rw [BitVec.toNat_shiftLeft, Nat.shiftLeft_eq]
  omega
theorem ne0_32 {x : W32} (h : ((x.toNat : Int) != 0) = true) : x ≠ 0#32 := by
  rintro rfl
  simp at h
theorem eq0_32 {x : W32} (h : ¬ ((x.toNat : Int) != 0) = true) : x = 0#32 := by
  apply BitVec.eq_of_toNat_eq
  have : x.toNat = 0 := by simpa using h
  rw [this]; rfl
theorem top32 (x : W32) : ((x.toNat : Int) / 2147483648 == 1) = x.msb := by
  have := x.isLt
  rw [BitVec.msb_eq_decide, Bool.eq_iff_iff, beq_iff_eq, decide_eq_true_eq]
  omega
theorem prod_more {g : Nat} {a : W32} (h : a <<< g = 0#32) (h0 : ((a.toNat : Int) != 0) = true) : ∃ k, g = k + 1 := by
  cases g with
  | zero => exact absurd (by simpa using h) (ne0_32 h0)
  | succ k => exact ⟨k, rfl⟩
theorem prod_shift {k : Nat} {a : W32} (h : a <<< (k + 1) = 0#32) : (a <<< 1) <<< k = 0#32 := by
  rw [← BitVec.shiftLeft_add, Nat.add_comm]; exact h
theorem prod_no {k : Nat} {a b c p : W32} (h : a <<< (k + 1) = 0#32) (hp : c ^^^ prodN (k + 1) a b = p) (hm : ((a.toNat : Int) / 2147483648 == 1) = false) : (a <<< 1) <<< k = 0#32 ∧ c ^^^ prodN k (a <<< 1) (step1 b) = p := by
  rw [top32] at hm
  refine ⟨prod_shift h, ?_⟩
  rw [← hp, prodN, hm]
  simp
theorem prod_yes {k : Nat} {a b c p : W32} (h : a <<< (k + 1) = 0#32) (hp : c ^^^ prodN (k + 1) a b = p) (hm : ((a.toNat : Int) / 2147483648 == 1) = true) : (a <<< 1) <<< k = 0#32 ∧ c ^^^ b ^^^ prodN k (a <<< 1) (step1 b) = p := by
  rw [top32] at hm
  refine ⟨prod_shift h, ?_⟩
  rw [← hp, prodN, hm, if_pos rfl, BitVec.xor_assoc]
theorem prod_done {k : Nat} {a b c p : W32} (hp : c ^^^ prodN k a b = p) (h : ¬ ((a.toNat : Int) != 0) = true) : c = p := by
  rw [eq0_32 h, prodN_zero, BitVec.xor_zero] at hp
  exact hp
theorem xor_byte (y : W32) (c : UInt8) : bits .xor .u32 (y.toNat : Int) ((c.toNat : Int) % 4294967296) = ((y ^^^ b32 c).toNat : Int) := by
  have hc := c.toNat_lt
  have e : (c.toNat : Int) % 4294967296 = ((b32 c).toNat : Int) := by rw [b32_nat]; omega
  rw [e, xor32]
theorem and1_i64 (n : Int) : bits .and .i64 n 1 = n % 2 := by
  have h1 : (BitVec.ofInt 64 1).toNat = 2 ^ 1 - 1 := by decide
  have key : (BitVec.ofInt 64 n &&& BitVec.ofInt 64 1).toNat = (n % ((2 ^ 64 : Nat) : Int)).toNat % 2 ^ 1 := by
    rw [BitVec.toNat_and, BitVec.toNat_ofInt, h1, Nat.and_two_pow_sub_one_eq_mod]
  show IntKind.i64.wrap ((BitVec.ofInt 64 n &&& BitVec.ofInt 64 1).toNat : Nat) = n % 2
  rw [key, IntKind.wrap_i64]
  omega
theorem even_i64 (g : Nat) (h : (bits .and .i64 (g : Int) 1 == 1) = false) : g % 2 = 0 := by
  rw [and1_i64, beq_eq_false_iff_ne] at h
  omega
theorem odd_i64 (g : Nat) (h : (bits .and .i64 (g : Int) 1 == 1) = true) : g % 2 = 1 := by
  rw [and1_i64, beq_iff_eq] at h
  omega
theorem mod2_32 (x : W32) : ((x.toNat : Int) % 2 == 1) = x.getLsbD 0 := by
  have : x.getLsbD 0 = decide (x.toNat % 2 = 1) := by simp [BitVec.getLsbD, Nat.testBit_zero]
  rw [this, Bool.eq_iff_iff, beq_iff_eq, decide_eq_true_eq]
  omega
end Go.Wag
namespace Go.Proofs.YtnejiclghnigiaaDoor
open Go.RowKit Go.Wag
set_option linter.unusedVariables false
set_option maxRecDepth 20000

theorem i5 : (Tryd.prog.info? 5).map (fun i => (i.zero, i.size, i.bytes)) = some (some (.int .u8 0), 1, 1) := by kernel_rfl
theorem i23 : (Tryd.prog.info? 84).map (fun i => (i.zero, i.size, i.bytes)) = some (some (.int .u64 0), 1, 8) := by kernel_rfl

theorem sz5 : (Tryd.prog.info? 5).map (·.size) = some 1 := by kernel_rfl
theorem el22 : Tryd.prog.elem 24 = 5 := by kernel_rfl
theorem un22 : Tryd.prog.underlying 24 = some (.slice (Tryd.prog.elem 24)) := by kernel_rfl

set_option maxHeartbeats 400000 in
theorem isSize_any (s : Int) (w : World) : Calls Tryd.prog 71 #[.int .i64 s] w fun e w' => e = .returned (.bool (isSz s)) ∧ w = w' := by
  go_enter Tryd.func71, Tryd.ntmps71
  go_wp2
  all_goals
    go_ret
    refine ⟨?_, rfl⟩
    simp_all [isSz]

set_option maxHeartbeats 400000 in
theorem letterSize_any (c : Int) (w : World) : Calls Tryd.prog 59 #[.int .i32 c] w fun e w' => e = .returned (.int .i64 (ltr c : Int)) ∧ w = w' := by
  go_enter Tryd.func59, Tryd.ntmps59
  go_wp2
  all_goals
    go_ret
    refine ⟨?_, rfl⟩
    simp_all [ltr]

set_option maxHeartbeats 400000 in
theorem fits_any (n s : Int) (w : World) (h0 : 0 ≤ n) (h1 : n < 18446744073709551616) (hs : isSz s = true) :
    Calls Tryd.prog 60 #[.int .u64 n, .int .i64 s] w fun e w' => e = .returned (.bool (fitsB n.toNat s.toNat)) ∧ w = w' := by
  rcases isSz_cases hs with rfl | rfl | rfl | rfl
  all_goals
    clear hs
    go_enter Tryd.func60, Tryd.ntmps60
    go_wp2
    go_ret
    refine ⟨?_, rfl⟩
    exact ret_bool (fits1 n _ _ h0 (by decide))

set_option maxHeartbeats 400000 in
theorem number_any (A : Option Addr) (n c : Nat) (l : List UInt8) (w : World) (h : Sl w A n c (l.map v8)) (hn : n ≤ 8) :
    Calls Tryd.prog 90 #[.slice A n c] w fun e w' => e = .returned (.int .u64 (lev l : Int)) ∧ w = w' := by
  go_enter Tryd.func90, Tryd.ntmps90
  go_wp2
  go_loop [3, 8] (fun x i => ∃ k : Nat, k ≤ n ∧ i = .int .i64 k ∧ x = .int .u64 (lev (l.take k) : Int)) (fun _ i => n - (intOf i).toNat)
  case atStart => exact ⟨0, Nat.zero_le _, rfl, rfl⟩
  case round =>
    obtain ⟨k, hk, rfl, rfl⟩ := hrel
    by_cases hlt : k < n
    · obtain ⟨ad, rfl, hb, hl, hc⟩ := h.byte hlt
      have HS : Hid (l.take (k + 1) = l.take k ++ [l[k]]) := List.take_succ_eq_append_getElem hl
      have HL : Hid ((l.take k).length = k) := by show (l.take k).length = k; rw [List.length_take]; omega
      go_wp2
      go_round
      case rel =>
        refine ⟨k + 1, by omega, by go_num, val_int ?_⟩
        have hlt' := lev_lt (l.take k)
        rw [HL.out] at hlt'
        rw [or_step _ _ k (by omega) hlt' (UInt8.toNat_lt _), HS.out, lev_snoc, HL.out]
      case measure => simp [intOf]; omega
    · have HT : Hid (l.take k = l) := List.take_of_length_le (by have := h.len8; omega)
      go_wp2
      go_ret
      exact ⟨ret_int (by rw [HT.out]), rfl⟩

/-- What is behind 'appendNumber': the row, s bytes longer. -/
def AppPost (base : Nat) (w : World) (v : Value) (n : Nat) (xs : List Value) (s N : Nat) (e : Ending) (w' : World) : Prop :=
  ∃ A' c', e = .returned (.slice A' (n + s) c') ∧ Own base 5 w w' v (.slice A' (n + s) c') (n + s) (xs ++ (leb s N).map v8)

set_option maxHeartbeats 400000 in
theorem appendNumber_any (base : Nat) (A : Option Addr) (n c : Nat) (xs : List Value) (N s : Int) (w : World) (hown : w.ownsRow base 5 1 (.slice A n c) n xs) (hb : base ≤ w.heap.size)
    (h0 : 0 ≤ N) (h1 : N < 18446744073709551616) (hs0 : 0 ≤ s) (hs : s ≤ 8) (hn : n ≤ 100000000000000) :
    Calls Tryd.prog 61 #[.slice A n c, .int .u64 N, .int .i64 s] w (AppPost base w (.slice A n c) n xs s.toNat N.toNat) := by
  obtain ⟨m, rfl⟩ := Int.eq_ofNat_of_zero_le h0
  obtain ⟨z, rfl⟩ := Int.eq_ofNat_of_zero_le hs0
  rw [Int.toNat_natCast, Int.toNat_natCast]
  obtain ⟨i0, hi, hz0, hz1, hz2⟩ := info_parts i5
  go_enter Tryd.func61, Tryd.ntmps61
  go_wp2
  go_loopw [0, 1, 8] (fun v x i wr => ∃ k : Nat, k ≤ z ∧ i = .int .i64 k ∧ x = .int .u64 ((m / 256 ^ k : Nat) : Int) ∧ ∃ A' c', v = .slice A' (n + k) c' ∧ Own base 5 w wr (.slice A n c) (.slice A' (n + k) c') (n + k) (xs ++ (leb k m).map v8))
    (fun _ _ i _ => z - (intOf i).toNat)
  case atStart => exact ⟨0, Nat.zero_le _, rfl, by simp, A, c, rfl, by simpa [leb] using Own.start hown hb⟩
  case round =>
    obtain ⟨k, hk, rfl, rfl, A', c', rfl, hw⟩ := hrel
    by_cases hlt : k < z
    · go_wp2_with (at_builtin; refine wpList_app rfl (.tmp 10) (.tmp 13) 24 rfl rfl (hw.alloc _) i0 (.int .u8 0) 1 Tryd.underlying24 hi hz0 hz1 hz2 rfl _ 1 1 _ rfl (Sl.one _ _ _) ?_ ?_ ?_ ?_)
      · intro u hu; simp at hu; subst hu; rfl
      · omega
      · omega
      intro A2 c2 w2 hw2
      rw [leb_round] at hw2
      go_wp2
      go_roundw
      case rel => exact ⟨k + 1, by omega, by go_num, val_int (div_round k m), A2, c2, rfl, hw2⟩
      case measure => simp [intOf]; omega
    · go_wp2
      go_ret
      have : k = z := by omega
      subst this
      exact ⟨A', c', rfl, hw⟩
end Go.Proofs.YtnejiclghnigiaaDoor
namespace Go.Proofs.YtnejiclghnigiaaDoor
open Go.RowKit Go.Wag
set_option linter.unusedVariables false
set_option maxRecDepth 20000

/-- Bytes or none, and an error's number beside them; nothing old has turned. -/
def BytesErr (w : World) (r : Option (List UInt8)) (no : Int) (e : Ending) (w' : World) : Prop :=
  ∃ A n c, e = .returned (.tuple #[.slice A n c, .int .i64 (errOf r no)]) ∧ Sl w' A n c ((r.getD []).map v8) ∧ Nw 5 w w' A n c ((r.getD []).map v8) ∧ Below w.heap.size w w'

theorem putF_no {l : List UInt8} {n : Nat} {s : Int} (h : isSz s = false ∨ fitsB n s.toNat = false) : putF l n s = none := by
  unfold putF
  rcases h with h | h <;> simp [h]
theorem putF_yes {l : List UInt8} {n : Nat} {s : Int} (h : isSz s = true) (h' : fitsB n s.toNat = true) : putF l n s = some (l ++ leb s.toNat n) := by simp [putF, h, h']
theorem sz_range {s : Int} (h : isSz s = true) : 1 ≤ s ∧ s ≤ 8 := by rcases isSz_cases h with rfl | rfl | rfl | rfl <;> omega

set_option maxHeartbeats 400000 in
theorem Put_any (A : Option Addr) (n c : Nat) (l : List UInt8) (N s : Int) (w : World) (h : Sl w A n c (l.map v8)) (hn : n ≤ 10000000000000) (h0 : 0 ≤ N) (h1 : N < 18446744073709551616) :
    Calls Tryd.prog 62 #[.slice A n c, .int .u64 N, .int .i64 s] w (BytesErr w (putF l N.toNat s) 10) := by
  have HN : Hid (l.length = n) := h.len8
  obtain ⟨i0, hi, hz0, hz1, hz2⟩ := info_parts i5
  by_cases hs : isSz s = true
  · obtain ⟨hs1, hs8⟩ := sz_range hs
    obtain ⟨z, rfl⟩ := Int.eq_ofNat_of_zero_le (show 0 ≤ s by omega)
    by_cases hf : fitsB N.toNat z = true
    · rw [putF_yes hs hf, Int.toNat_natCast]
      have hmk := fun W => run_mk (P := Tryd.prog) 24 5 i0 (.int .u8 0) 1 Tryd.underlying24 hi hz0 hz1 hz2 rfl .i64 .i64 (n : Int) ((n : Int) + (z : Int)) n (n + z) rfl (by omega) (by omega) (by omega) (by omega) W
      have HO := Own.made w (.int .u8 0) 5 n (n + z) (by omega) (by omega)
      have HC := h.alloc (.cells (mk0 (.int .u8 0) (n + z)) 5)
      go_enter Tryd.func62, Tryd.ntmps62
      go_wp2_with fail
      refine (isSize_any _ _).mono ?_
      rintro e w' ⟨rfl, rfl⟩
      go_wp2_with fail
      refine (fits_any _ _ _ h0 h1 hs).mono ?_
      rintro e w' ⟨rfl, rfl⟩
      go_wp2_with (with_reducible refine wpList_cpy rfl (.tmp 25) (.tmp 26) 24 24 rfl rfl HO Tryd.underlying24 sz5 A n c (l.map v8) rfl HC (oneCell8 l) ?_; intro w2 hw2)
      have e2 : (l.map v8).take n ++ (List.replicate n (Value.int .u8 0)).drop n = l.map v8 := by
        rw [cpy_full _ _ _ HC.len]
      rw [e2] at hw2
      clear e2 hmk HO HC
      refine (appendNumber_any w.heap.size _ n (n + z) (l.map v8) _ _ w2 hw2.own hw2.hbase h0 h1 (by omega) (by omega) (by omega)).mono ?_
      rintro e w3 ⟨A3, c3, rfl, h3⟩
      rw [Int.toNat_natCast, ← List.map_append] at h3
      go_wp2
      go_ret2
      exact ⟨A3, n + z, c3, rfl, h3.to_sl, h3.fresh, (hw2.step h3).below_made⟩
    · have hf' : fitsB N.toNat z = false := by simpa using hf
      rw [putF_no (.inr (by rw [Int.toNat_natCast]; exact hf'))]
      go_enter Tryd.func62, Tryd.ntmps62
      go_wp2_with fail
      refine (isSize_any _ _).mono ?_
      rintro e w' ⟨rfl, rfl⟩
      go_wp2_with fail
      refine (fits_any _ _ _ h0 h1 hs).mono ?_
      rintro e w' ⟨rfl, rfl⟩
      go_wp2
      go_ret2
      exact ⟨none, 0, 0, rfl, Sl.nil _, Nw.nil _ _ _, Below.refl _ _⟩
  · have hs' : isSz s = false := by simpa using hs
    rw [putF_no (.inl hs')]
    go_enter Tryd.func62, Tryd.ntmps62
    go_wp2_with fail
    refine (isSize_any _ _).mono ?_
    rintro e w' ⟨rfl, rfl⟩
    go_wp2
    go_ret2
    exact ⟨none, 0, 0, rfl, Sl.nil _, Nw.nil _ _ _, Below.refl _ _⟩

/-- A number, bytes, and an error's number; nothing old has turned. -/
def NumErr (w : World) (r : Option (Nat × List UInt8)) (no : Int) (e : Ending) (w' : World) : Prop :=
  ∃ A n c, e = .returned (.tuple #[.int .u64 (((r.map (·.1)).getD 0 : Nat) : Int), .slice A n c, .int .i64 (errOf r no)]) ∧ Sl w' A n c (((r.map (·.2)).getD []).map v8) ∧ Nw 5 w w' A n c (((r.map (·.2)).getD []).map v8) ∧ Below w.heap.size w w'

theorem takeF_no {l : List UInt8} {s : Int} (h : isSz s = false ∨ ¬ s.toNat ≤ l.length) : takeF l s = none := by
  unfold takeF
  rcases h with h | h <;> simp [h]
theorem takeF_yes {l : List UInt8} {s : Int} (h : isSz s = true) (h' : s.toNat ≤ l.length) : takeF l s = some (lev (l.take s.toNat), l.drop s.toNat) := by simp [takeF, h, h']

set_option maxHeartbeats 400000 in
theorem Take_any (A : Option Addr) (n c : Nat) (l : List UInt8) (s : Int) (w : World) (h : Sl w A n c (l.map v8)) (hn : n ≤ 10000000000000) :
    Calls Tryd.prog 91 #[.slice A n c, .int .i64 s] w (NumErr w (takeF l s) 10) := by
  have HN : Hid (l.length = n) := h.len8
  have hcap := h.cap
  have hbig := h.big
  obtain ⟨i0, hi, hz0, hz1, hz2⟩ := info_parts i5
  by_cases hs : isSz s = true
  · obtain ⟨hs1, hs8⟩ := sz_range hs
    obtain ⟨z, rfl⟩ := Int.eq_ofNat_of_zero_le (show 0 ≤ s by omega)
    by_cases hf : z ≤ n
    · rw [takeF_yes hs (by rw [Int.toNat_natCast, HN.out]; exact hf), Int.toNat_natCast]
      have hmk := fun W => run_mk (P := Tryd.prog) 24 5 i0 (.int .u8 0) 1 Tryd.underlying24 hi hz0 hz1 hz2 rfl .i64 .i64 ((n : Int) - (z : Int)) ((n : Int) - (z : Int)) (n - z) (n - z) (by omega) (by omega) (by omega) (by omega) (by omega) W
      have HO := Own.made w (.int .u8 0) 5 (n - z) (n - z) (by omega) (by omega)
      have HC := (h.alloc (.cells (mk0 (.int .u8 0) (n - z)) 5)).from_ hf
      have hcut := fun W => run_cut (P := Tryd.prog) 24 5 un22 el22 sz5 A n c .i64 (z : Int) z rfl hf W
      go_enter Tryd.func91, Tryd.ntmps91
      go_wp2_with fail
      refine (isSize_any _ _).mono ?_
      rintro e w' ⟨rfl, rfl⟩
      go_wp2_with (with_reducible refine wpList_cpy rfl (.tmp 22) (.tmp 25) 24 24 rfl rfl HO Tryd.underlying24 sz5 _ _ _ _ rfl HC (by rw [← List.map_drop]; exact oneCell8 _) ?_; intro w2 hw2)
      have e2 : ((l.map v8).drop z).take (n - z) ++ (List.replicate (n - z) (Value.int .u8 0)).drop (n - z) = (l.drop z).map v8 := by
        rw [cpy_full _ _ _ HC.len, List.map_drop]
      rw [e2] at hw2
      have hB := hw2.below_made
      clear e2 hmk HO HC hcut
      refine (number_any A z c (l.take z) w2 (by rw [List.map_take]; exact (h.below hB).upto hf) (by omega)).mono ?_
      rintro e w3 ⟨rfl, rfl⟩
      go_wp2
      refine bodyPost_ret (results_tmp3 rfl _ _ _) rfl ?_
      exact ⟨_, _, _, rfl, hw2.to_sl, hw2.fresh, hB⟩
    · rw [takeF_no (.inr (by rw [Int.toNat_natCast, HN.out]; exact hf))]
      go_enter Tryd.func91, Tryd.ntmps91
      go_wp2_with fail
      refine (isSize_any _ _).mono ?_
      rintro e w' ⟨rfl, rfl⟩
      go_wp2
      refine bodyPost_ret (results_tmp3 rfl _ _ _) rfl ?_
      exact ⟨none, 0, 0, rfl, Sl.nil _, Nw.nil _ _ _, Below.refl _ _⟩
  · have hs' : isSz s = false := by simpa using hs
    rw [takeF_no (.inl hs')]
    go_enter Tryd.func91, Tryd.ntmps91
    go_wp2_with fail
    refine (isSize_any _ _).mono ?_
    rintro e w' ⟨rfl, rfl⟩
    go_wp2
    refine bodyPost_ret (results_tmp3 rfl _ _ _) rfl ?_
    exact ⟨none, 0, 0, rfl, Sl.nil _, Nw.nil _ _ _, Below.refl _ _⟩


end Go.Proofs.YtnejiclghnigiaaDoor
namespace Go.Wag

theorem jump_mono {P : Program} {l : Nat} {J J' : Act → World → Prop} {Q : Exit → Act → World → Prop} {c : Code} {a : Act} {w : World} (h : c.wp P (Exit.jump l J Q) a w) (hj : ∀ a w, J a w → J' a w) : c.wp P (Exit.jump l J' Q) a w := by
  refine wp_mono h ?_
  intro e a' w' hq
  cases e with
  | goto l' => exact ⟨hq.1, hj _ _ hq.2⟩
  | normal => exact hq
  | exit id => exact hq
  | ret => exact hq
  | panic ch => exact hq
  | outgrown => exact hq

theorem wp_scope_ghost {P : Program} {a : Act} {w : World} {Q : Exit → Act → World → Prop} {c rest : Code} (l : Nat) (J : Nat → Act → World → Prop) (hf : findLabel c l = some (Code.skip.seq rest))
    (pass : ∀ n a w, J n a w → ∀ J' : Nat → Act → World → Prop, (∀ k a w, J k a w → J' k a w) → rest.wp P (Exit.jump l (Handed J' n) Q) a w)
    (first : ∀ L : Act → World → Prop, (∀ n a w, J n a w → rest.wp P (Exit.jump l L Q) a w) → c.wp P (Exit.jump l L Q) a w) : (Code.scope c).wp P Q a w := by
  have key : ∀ n a w, J n a w → rest.wp P (Exit.jump l (fun a' w' => ∃ n, J n a' w') Q) a w := fun n a w h =>
    jump_mono (pass n a w h J fun _ _ _ q => q) fun _ _ ⟨k, _, hk⟩ => ⟨k, hk⟩
  refine wp_scope_jumps l (fun a w => ∃ n, J n a w) (fun a w => leastOf fun n => J n a w) hf (first _ key) ?_
  intro a w hI
  refine wp_seq (wp_skip ?_)
  refine jump_mono (pass _ a w (leastOf_spec hI).1 J fun _ _ _ q => q) ?_
  rintro a' w' ⟨k, hlt, hk⟩
  exact ⟨⟨k, hk⟩, Nat.lt_of_le_of_lt ((leastOf_spec ⟨k, hk⟩).2 k hk) hlt⟩
end Go.Wag
namespace Go.Proofs.YtnejiclghnigiaaDoor
open Go.RowKit Go.Wag
set_option linter.unusedVariables false
set_option maxRecDepth 20000

/-- The table of package crc, read. -/
def Tab (w : World) : Prop := ∀ i : Nat, i < 16 → w.cell? ⟨0, i, none⟩ = some (.int .u32 (tab16.getD i 0))

/-- Half a byte's round, in the walk's words. -/
theorem Tab.half {w : World} (hT : Tab w) (z : W32) : ∃ (q : Nat) (z' : W32) (t : Int), q < 16 ∧ bits .and .u32 (z.toNat : Int) 15 = (q : Int) ∧ w.cell? ⟨0, q, none⟩ = some (.int .u32 t) ∧ bits .xor .u32 ((z.toNat : Int) / 16) t = (z'.toNat : Int) ∧ Aside (z' = steps 4 z) :=
  ⟨(z &&& 15#32).toNat, steps 4 z, _, and15_lt z, and32 z 15#32, hT _ (and15_lt z), half32 z, rfl⟩
theorem Tab.below {w w' : World} (hT : Tab w) (h : Below w.heap.size w w') : Tab w' := fun i hi => by
  have h1 := hT i hi
  exact (h.cell (World.block_lt_of_cell? w _ h1)).trans h1

set_option maxHeartbeats 400000 in
theorem More_any (s : W32) (A : Option Addr) (n c : Nat) (l : List UInt8) (w : World) (hT : Tab w) (h : Sl w A n c (l.map v8)) :
    Calls Tryd.prog 72 #[.int .u32 (s.toNat : Int), .slice A n c] w fun e w' => e = .returned (.int .u32 ((moreF s l).toNat : Int)) ∧ w = w' := by
  have hx : bits .xor .u32 (s.toNat : Int) 4294967295 = ((s ^^^ ones).toNat : Int) := xor32 s ones
  go_enter Tryd.func72, Tryd.ntmps72
  go_wp2
  clear hx
  go_loopg [0, 6, 11] n (fun g x u i wr => w = wr ∧ ∃ (k : Nat) (y : W32), x = .int .u32 (y.toNat : Int) ∧ i = .int .i64 (k : Int) ∧ k + g = n ∧ Aside (y = raw (s ^^^ ones) (l.take k)))
  case atStart => exact ⟨rfl, 0, s ^^^ ones, rfl, rfl, by omega, rfl⟩
  case round =>
    obtain ⟨rfl, k, y, rfl, rfl, hk, hA⟩ := hrel
    by_cases hlt : k < n
    · obtain ⟨ad, rfl, hb, hl, hc⟩ := h.byte hlt
      have HS : Hid (l.take (k + 1) = l.take k ++ [l[k]]) := List.take_succ_eq_append_getElem hl
      obtain ⟨z, h1, hz⟩ : ∃ z : W32, bits .xor .u32 (y.toNat : Int) ((l[k].toNat : Int) % 4294967296) = (z.toNat : Int) ∧ Aside (z = y ^^^ b32 l[k]) := ⟨_, xor_byte y l[k], rfl⟩
      obtain ⟨q1, z1, t1, hq1, e1, c1, x1, hz1⟩ := hT.half z
      obtain ⟨q2, z2, t2, hq2, e2, c2, x2, hz2⟩ := hT.half z1
      obtain ⟨g, rfl⟩ : ∃ g, gk = g + 1 := ⟨gk - 1, by omega⟩
      have hcap := h.cap
      have hbig := h.big
      go_wp2
      go_roundg g
      case measure => omega
      case rel => exact ⟨rfl, k + 1, z2, rfl, by go_num, by omega, by rw [HS.out, raw_snoc, ← hA.out, ← hz.out, show (8 : Nat) = 4 + 4 from rfl, steps_add, ← hz1.out]; exact hz2.out⟩
    · have HL : Hid (l.take k = l) := List.take_of_length_le (by have := h.len8; omega)
      go_wp2
      go_ret
      exact ⟨ret_int (by rw [hA.out, HL.out]; exact xor32 _ ones), rfl⟩

theorem join_left (n : Int) (N : Nat) (h : min (max n 0) 1073741824 = (N : Int)) : (1073741824 < n → (N : Int) = 1073741824) ∧ (n < 0 → (N : Int) = 0) ∧ (0 ≤ n → n ≤ 1073741824 → (N : Int) = n) := by omega

/-- What holds at Join's label. -/
def JoinAt (a b : W32) (n : Int) (N : Nat) (w : World) (g : Nat) (a' : Act) (w' : World) : Prop :=
  w' = w ∧ ∃ (x y : W32) (u9 u10 u11 u12 u13 u14 u15 u16 u17 u18 u19 u20 u21 u22 u23 u24 u25 u26 u27 : Value), a' = { tmps := #[.int .u32 (x.toNat : Int), .int .u32 (b.toNat : Int), .int .i64 n, undef, undef, undef, .int .u32 0, .int .i64 (g : Int), .int .u32 (y.toNat : Int), u9, u10, u11, u12, u13, u14, u15, u16, u17, u18, u19, u20, u21, u22, u23, u24, u25, u26, u27], defers := [] } ∧ Aside (∃ m, y = steps m 0x80000000#32 ∧ steps (m * g) x = steps (8 * N) a)

theorem JoinAt.start {a b : W32} {n : Int} {N : Nat} {w : World} {q : Int} (hq : (N : Int) = q) {u9 u10 u11 u12 u13 u14 u15 u16 u17 u18 u19 u20 u21 u22 u23 u24 u25 u26 u27 : Value} :
    JoinAt a b n N w N { tmps := #[.int .u32 (a.toNat : Int), .int .u32 (b.toNat : Int), .int .i64 n, undef, undef, undef, .int .u32 0, .int .i64 q, .int .u32 8388608, u9, u10, u11, u12, u13, u14, u15, u16, u17, u18, u19, u20, u21, u22, u23, u24, u25, u26, u27], defers := [] } w := by
  subst hq
  exact ⟨rfl, a, 0x800000#32, _, _, _, _, _, _, _, _, _, _, _, _, _, _, _, _, _, _, _, rfl, 8, steps8_top.symm, rfl⟩

end Go.Proofs.YtnejiclghnigiaaDoor
namespace Go.Proofs.YtnejiclghnigiaaDoor
open Go.RowKit Go.Wag
set_option linter.unusedVariables false
set_option maxRecDepth 20000

/-- A form's bytes in all, and whether it is one; nothing old has turned. -/
def FormPost (w : World) (l : List UInt8) (e : Ending) (w' : World) : Prop :=
  e = .returned (.tuple #[.int .i64 (((fsum l).getD 0 : Nat) : Int), .bool (fsum l).isSome]) ∧ Below w.heap.size w w'

theorem iter_below (w : World) (s : ByteArray) (p : Nat) : Below w.heap.size w (w.iter s p) := (Below.refl _ _).alloc (Nat.le_refl _) _

set_option maxHeartbeats 400000 in
theorem formBytes_any (s : ByteArray) (w : World) (hs : s.size ≤ 100000000000) :
    Calls Tryd.prog 58 #[.string s] w (FormPost w s.data.toList) := by
  go_enter Tryd.func58, Tryd.ntmps58
  go_wp2
  go_loopw [4] (fun x w' => ∃ (pos t : Nat), w' = w.iter s pos ∧ pos ≤ s.size ∧ x = .int .i64 t ∧ Hid (fsum (s.data.toList.take pos) = some t) ∧ t ≤ 8 * pos) (fun _ w' => s.size - w'.iterPos w.heap.size)
  case atStart => exact ⟨0, 0, rfl, Nat.zero_le _, rfl, rfl, by omega⟩
  case round =>
    obtain ⟨pos, t, rfl, hpos, rfl, hf, ht⟩ := hrel
    by_cases hp : pos < s.size
    · have hl : pos < s.data.toList.length := by simpa using hp
      by_cases ha : (s[pos]'hp).toNat < 128
      · have hnx : ∀ ty, (Instr.next (.pointer (some ⟨w.heap.size, 0, none⟩)) true ty).run Tryd.prog (w.iter s pos) = _ := fun ty => run_next_ascii w s pos ty hp ha
        have HQ : Hid (s.data.toList[pos] = s[pos]'hp) := rfl
        by_cases hz : ltr (s[pos]'hp).toNat = 0
        · have HN : Hid (fsum s.data.toList = none) := fsum_stop hl hf.out (by rw [HQ.out]; exact hz)
          go_wp2_with (go_at_call 59; refine (letterSize_any _ _).mono ?_; rintro e w' ⟨rfl, rfl⟩)
          go_ret2
          exact ⟨by rw [HN.out]; rfl, iter_below _ _ _⟩
        · have HN : Hid (fsum (s.data.toList.take (pos + 1)) = some (t + ltr (s[pos]'hp).toNat)) := fsum_step hl hf.out (by rw [HQ.out]; exact hz)
          have hle := ltr_le (s[pos]'hp).toNat
          have hzi : (((ltr (s[pos]'hp).toNat : Nat) : Int) == 0) = false := by simp; omega
          go_wp2_with (go_at_call 59; refine (letterSize_any _ _).mono ?_; rintro e w' ⟨rfl, rfl⟩)
          exact ⟨⟨pos + 1, t + ltr (s[pos]'hp).toNat, rfl, by omega, by go_num, HN, by omega⟩, by simp; omega⟩
      · have hh := decode_high s pos hp (by omega)
        have hnx : ∀ ty, (Instr.next (.pointer (some ⟨w.heap.size, 0, none⟩)) true ty).run Tryd.prog (w.iter s pos) = _ := fun ty => run_next_any w s pos ty hp
        have hz : ltr ((Utf8.decode s pos).1 : Int) = 0 := ltr_high (by omega)
        have HN : Hid (fsum s.data.toList = none) := fsum_stop hl hf.out (ltr_high (c := ((s[pos]'hp).toNat : Int)) (by omega))
        go_wp2_with (go_at_call 59; refine (letterSize_any _ _).mono ?_; rintro e w' ⟨rfl, rfl⟩)
        go_ret2
        exact ⟨by rw [HN.out]; rfl, iter_below _ _ _⟩
    · have hnx : ∀ ty, (Instr.next (.pointer (some ⟨w.heap.size, 0, none⟩)) true ty).run Tryd.prog (w.iter s pos) = _ := fun ty => run_next_end w s pos ty hp
      have HN : Hid (fsum s.data.toList = some t) := by
        have := hf.out
        rwa [List.take_of_length_le (by simp; omega)] at this
      go_wp2
      go_ret2
      exact ⟨by rw [HN.out]; rfl, iter_below _ _ _⟩

/-- The loop of Pack: out reads as the numbers so far, and the iterator stands at pos. -/
def PackRel (l : List UInt8) (ns : List UInt64) (g t : Nat) (W0 : World) (s : ByteArray) (x : Value) (wr : World) (pos : Nat) : Prop :=
  ∃ A m c bs, x = .slice A m c ∧ Own g 5 W0 wr (.slice (some ⟨g, 0, none⟩) 0 t) (.slice A m c) m (bs.map v8) ∧ packF (l.take pos) (ns.take pos) = some bs ∧ m ≤ 8 * pos ∧ wr.heap[g + 1]? = some (.stringIter s pos)

set_option maxHeartbeats 1000000 in
theorem Pack_any (s : ByteArray) (A : Option Addr) (n c : Nat) (ns : List UInt64) (w : World) (h : Sl w A n c (ns.map v64)) (hs : s.size ≤ 100000000000) :
    Calls Tryd.prog 38 #[.string s, .slice A n c] w (BytesErr w (packF s.data.toList ns) 10) := by
  have HN : Hid (ns.length = n) := h.len64
  have HL : Hid (s.data.toList.length = s.size) := by show s.data.toList.length = s.size; simp
  obtain ⟨i0, hi, hz0, hz1, hz2⟩ := info_parts i5
  cases hf : fsum s.data.toList with
  | none =>
    rw [packF_none _ _ hf]
    have HF := Lib.hid hf
    clear hf
    go_enter Tryd.func38, Tryd.ntmps38
    go_wp2_with fail
    refine (formBytes_any _ _ hs).mono ?_
    rintro e w1 ⟨rfl, hb⟩
    rw [HF.out]
    go_wp2
    go_ret2
    exact ⟨none, 0, 0, rfl, Sl.nil _, Nw.nil _ _ _, hb⟩
  | some t =>
    have ht := fsum_le _ _ hf
    rw [HL.out] at ht
    by_cases hl : s.size = n
    · have HF := Lib.hid hf
      clear hf
      have hne : ((s.size : Int) != (n : Int)) = false := by simp [hl]
      have Hl := Lib.hid hl
      clear hl
      have hmk := fun W => run_mk (P := Tryd.prog) 24 5 i0 (.int .u8 0) 1 Tryd.underlying24 hi hz0 hz1 hz2 rfl .i64 .i64 (0 : Int) (t : Int) 0 t rfl rfl (by omega) (by omega) (by omega) W
      go_enter Tryd.func38, Tryd.ntmps38
      go_wp2_with fail
      refine (formBytes_any _ _ hs).mono ?_
      rintro e w1 ⟨rfl, hb⟩
      rw [HF.out]
      go_wp2
      go_loopw [8] (fun x wr => ∃ pos, pos ≤ s.size ∧ PackRel s.data.toList ns w1.heap.size t (w1.alloc (.cells (mk0 (.int .u8 0) t) 5)) s x wr pos) (fun _ wr => s.size - wr.iterPos (w1.heap.size + 1))
      case atStart =>
        refine ⟨0, Nat.zero_le _, _, 0, t, [], rfl, (Own.made w1 (.int .u8 0) 5 0 t (by omega) (by omega)).alloc _, rfl, by omega, ?_⟩
        have := World.iter_heap (w1.alloc (.cells (mk0 (.int .u8 0) t) 5)) s 0
        simpa using this
      case round =>
        obtain ⟨pos, hpos, A1, m, c1, bs, rfl, how, hpk, hm, hit⟩ := hrel
        have HP := Lib.hid hpk
        have HI := Lib.hid hit
        clear hpk hit
        have hbw : Below w.heap.size w wr := (hb.trans ((how.below ((Below.refl _ _).alloc (Nat.le_refl _) _) (by simp) (fun k hk => by simp [Value.ownBlock] at hk; omega)).mono hb.size))
        by_cases hp : pos < s.size
        · have hl : pos < s.data.toList.length := by rw [HL.out]; exact hp
          have HA : Hid ((s[pos]'hp).toNat < 128) := fsum_ascii HF.out pos hl
          have HZ : Hid (ltr (s[pos]'hp).toNat ≠ 0) := fsum_letter _ _ HF.out pos hl
          obtain ⟨w2, hw2⟩ : ∃ w2, w2 = wr.iterAt (w1.heap.size + 1) s (pos + 1) := ⟨_, rfl⟩
          have hnx : ∀ ty, (Instr.next (.pointer (some ⟨w1.heap.size + 1, 0, none⟩)) true ty).run Tryd.prog wr = .ok (.tuple #[.bool true, .int .i64 pos, .int .i32 (s[pos]'hp).toNat]) w2 := fun ty => by
            rw [hw2]; exact Lib.run_next_ascii_at wr _ s pos ty HI.out hp HA.out
          have how2 := how.iterAt HI.out (by simp) (pos + 1)
          rw [← hw2] at how2
          have HI2 : Hid (w2.heap[w1.heap.size + 1]? = some (.stringIter s (pos + 1))) := by
            rw [hw2]; exact Lib.iterAt_heap wr _ s pos _ HI.out
          have hbw2 : Below w.heap.size w w2 := (hb.trans ((how2.below ((Below.refl _ _).alloc (Nat.le_refl _) _) (by simp) (fun k hk => by simp [Value.ownBlock] at hk; omega)).mono hb.size))
          clear hw2
          have hpn : pos < n := by have := Hl.out; omega
          obtain ⟨ad, rfl, hba, hln, hcell⟩ := (h.below hbw2).num hpn
          have hisz : isSz (ltr (s[pos]'hp).toNat : Int) = true := ltr_isSz HZ.out
          have hle := ltr_le (s[pos]'hp).toNat
          by_cases hfit : fitsB ns[pos].toNat (ltr (s[pos]'hp).toNat) = true
          · have HS : Hid _ := packF_step hl hln HP.out HZ.out hfit
            go_wp2_with fail
            refine (letterSize_any _ _).mono ?_
            rintro e w' ⟨rfl, rfl⟩
            go_wp2_with fail
            refine (fits_any _ _ _ (by omega) (u64_lt _) hisz).mono ?_
            rintro e w' ⟨rfl, rfl⟩
            go_wp2_with fail
            refine (appendNumber_any w1.heap.size _ _ _ _ _ _ w2 how2.own how2.hbase (by omega) (u64_lt _) (by omega) (by omega) (by omega)).mono ?_
            rintro e w4 ⟨A4, c4, rfl, h4⟩
            rw [Int.toNat_natCast, Int.toNat_natCast, ← List.map_append] at h4
            rw [Int.toNat_natCast]
            have HI4 := Lib.hid (h4.kept_iter how2.own HI2.out)
            have how4 := how2.step h4
            clear h4 how2 how
            go_wp2
            exact ⟨⟨pos + 1, by omega, A4, _, c4, _, rfl, how4, HS.out, by omega, HI4.out⟩, by rw [iterPos_of HI4.out, iterPos_of HI.out]; omega⟩
          · have hfit' : fitsB ns[pos].toNat (ltr (s[pos]'hp).toNat) = false := by simpa using hfit
            have HS : Hid _ := packF_stop hl hln HP.out (.inr hfit')
            rw [HS.out]
            go_wp2_with fail
            refine (letterSize_any _ _).mono ?_
            rintro e w' ⟨rfl, rfl⟩
            go_wp2_with fail
            refine (fits_any _ _ _ (by omega) (u64_lt _) hisz).mono ?_
            rintro e w' ⟨rfl, rfl⟩
            go_wp2
            go_ret2
            exact ⟨none, 0, 0, rfl, Sl.nil _, Nw.nil _ _ _, hbw2⟩
        · have hnx : ∀ ty, (Instr.next (.pointer (some ⟨w1.heap.size + 1, 0, none⟩)) true ty).run Tryd.prog wr = _ := fun ty => Lib.run_next_end_at wr _ s pos ty HI.out hp
          have HS : Hid (packF s.data.toList ns = some bs) := by
            have := HP.out
            rwa [List.take_of_length_le (by rw [HL.out]; omega), List.take_of_length_le (by rw [HN.out]; have := Hl.out; omega)] at this
          go_wp2
          go_ret2
          rw [HS.out]
          exact ⟨_, _, _, rfl, how.to_sl, how.fresh.mono hb.size, hbw⟩
    · rw [packF_len _ _ (by rw [HL.out, HN.out]; exact hl)]
      have HF := Lib.hid hf
      clear hf
      have hne : ((s.size : Int) != (n : Int)) = true := by simp; omega
      clear hl
      go_enter Tryd.func38, Tryd.ntmps38
      go_wp2_with fail
      refine (formBytes_any _ _ hs).mono ?_
      rintro e w1 ⟨rfl, hb⟩
      rw [HF.out]
      go_wp2
      go_ret2
      exact ⟨none, 0, 0, rfl, Sl.nil _, Nw.nil _ _ _, hb⟩

/-- Numbers or none, and an error's number beside them; nothing old has turned. -/
def NumsErr (w : World) (r : Option (List UInt64)) (no : Int) (e : Ending) (w' : World) : Prop :=
  ∃ A n c, e = .returned (.tuple #[.slice A n c, .int .i64 (errOf r no)]) ∧ Sl w' A n c ((r.getD []).map v64) ∧ Nw 84 w w' A n c ((r.getD []).map v64) ∧ Below w.heap.size w w'

theorem sz23 : (Tryd.prog.info? 84).map (·.size) = some 1 := by kernel_rfl

/-- The loop of Unpack. -/
def UnpackRel (l b : List UInt8) (g t : Nat) (W0 : World) (s : ByteArray) (x a : Value) (wr : World) (pos : Nat) : Prop :=
  ∃ A m c at_ out, x = .slice A m c ∧ a = .int .i64 (at_ : Nat) ∧ Own g 84 W0 wr (.slice (some ⟨g, 0, none⟩) 0 t) (.slice A m c) m (out.map v64) ∧ unpackF (l.take pos) (b.take at_) = some out ∧ fsum (l.take pos) = some at_ ∧ m = pos ∧ wr.heap[g + 1]? = some (.stringIter s pos)

theorem fsum_take_le {l : List UInt8} {t a k : Nat} (h : fsum l = some t) (ha : fsum (l.take k) = some a) : a ≤ t := by
  have e := fsum_append (l.take k) (l.drop k)
  rw [List.take_append_drop, h, ha] at e
  cases hd : fsum (l.drop k) with
  | none => rw [hd] at e; simp at e
  | some u => rw [hd] at e; simp at e; omega

set_option maxHeartbeats 1000000 in
theorem Unpack_any (s : ByteArray) (A : Option Addr) (n c : Nat) (b : List UInt8) (w : World) (h : Sl w A n c (b.map v8)) (hs : s.size ≤ 100000000000) :
    Calls Tryd.prog 78 #[.string s, .slice A n c] w (NumsErr w (unpackF s.data.toList b) 10) := by
  have HN : Hid (b.length = n) := h.len8
  have HL : Hid (s.data.toList.length = s.size) := by show s.data.toList.length = s.size; simp
  have hcap := h.cap
  have hbig := h.big
  obtain ⟨i0, hi, hz0, hz1, hz2⟩ := info_parts i23
  cases hf : fsum s.data.toList with
  | none =>
    rw [unpackF_none (by rw [hf]; simp)]
    have HF := Lib.hid hf
    clear hf
    go_enter Tryd.func78, Tryd.ntmps78
    go_wp2_with fail
    refine (formBytes_any _ _ hs).mono ?_
    rintro e w1 ⟨rfl, hb⟩
    rw [HF.out]
    go_wp2
    go_ret2
    exact ⟨none, 0, 0, rfl, Sl.nil _, Nw.nil _ _ _, hb⟩
  | some t =>
    have ht := fsum_le _ _ hf
    rw [HL.out] at ht
    by_cases hl : n = t
    · have HF := Lib.hid hf
      clear hf
      have hne : ((n : Int) != (t : Int)) = false := by simp [hl]
      have Hl := Lib.hid hl
      clear hl
      have hmk := fun W => run_mk (P := Tryd.prog) 104 84 i0 (.int .u64 0) 8 Tryd.underlying104 hi hz0 hz1 hz2 rfl .i64 .i64 (0 : Int) (s.size : Int) 0 s.size rfl rfl (by omega) (by omega) (by omega) W
      go_enter Tryd.func78, Tryd.ntmps78
      go_wp2_with fail
      refine (formBytes_any _ _ hs).mono ?_
      rintro e w1 ⟨rfl, hb⟩
      rw [HF.out]
      go_wp2
      go_loopw [8, 9] (fun x a wr => ∃ pos, pos ≤ s.size ∧ UnpackRel s.data.toList b w1.heap.size s.size (w1.alloc (.cells (mk0 (.int .u64 0) s.size) 84)) s x a wr pos) (fun _ _ wr => s.size - wr.iterPos (w1.heap.size + 1))
      case atStart =>
        refine ⟨0, Nat.zero_le _, _, 0, s.size, 0, [], rfl, rfl, (Own.made w1 (.int .u64 0) 84 0 s.size (by omega) (by omega)).alloc _, rfl, rfl, rfl, ?_⟩
        have := World.iter_heap (w1.alloc (.cells (mk0 (.int .u64 0) s.size) 84)) s 0
        simpa using this
      case round =>
        obtain ⟨pos, hpos, A1, m, c1, at_, out, rfl, rfl, how, hpk, hfs, hm, hit⟩ := hrel
        obtain rfl : m = pos := hm
        have HP := Lib.hid hpk
        have HI := Lib.hid hit
        have HS := Lib.hid hfs
        clear hpk hit hfs
        have hbw : Below w.heap.size w wr := (hb.trans ((how.below ((Below.refl _ _).alloc (Nat.le_refl _) _) (by simp) (fun k hk => by simp [Value.ownBlock] at hk; omega)).mono hb.size))
        by_cases hp : m < s.size
        · have hl : m < s.data.toList.length := by rw [HL.out]; exact hp
          have HA : Hid ((s[m]'hp).toNat < 128) := fsum_ascii HF.out m hl
          have HZ : Hid (ltr (s[m]'hp).toNat ≠ 0) := fsum_letter _ _ HF.out m hl
          have HS2 : Hid (fsum (s.data.toList.take (m + 1)) = some (at_ + ltr (s[m]'hp).toNat)) := fsum_step hl HS.out HZ.out
          have hat : at_ + ltr (s[m]'hp).toNat ≤ n := by rw [Hl.out]; exact fsum_take_le HF.out HS2.out
          obtain ⟨w2, hw2⟩ : ∃ w2, w2 = wr.iterAt (w1.heap.size + 1) s (m + 1) := ⟨_, rfl⟩
          have hnx : ∀ ty, (Instr.next (.pointer (some ⟨w1.heap.size + 1, 0, none⟩)) true ty).run Tryd.prog wr = .ok (.tuple #[.bool true, .int .i64 m, .int .i32 (s[m]'hp).toNat]) w2 := fun ty => by
            rw [hw2]; exact Lib.run_next_ascii_at wr _ s m ty HI.out hp HA.out
          have how2 := how.iterAt HI.out (by simp) (m + 1)
          rw [← hw2] at how2
          have HI2 : Hid (w2.heap[w1.heap.size + 1]? = some (.stringIter s (m + 1))) := by
            rw [hw2]; exact Lib.iterAt_heap wr _ s m _ HI.out
          have hbw2 : Below w.heap.size w w2 := (hb.trans ((how2.below ((Below.refl _ _).alloc (Nat.le_refl _) _) (by simp) (fun k hk => by simp [Value.ownBlock] at hk; omega)).mono hb.size))
          clear hw2
          have hle := ltr_le (s[m]'hp).toNat
          have hcut := fun W => run_cut2 (P := Tryd.prog) 24 5 un22 el22 sz5 A n c .i64 .i64 (at_ : Int) ((at_ : Int) + (ltr (s[m]'hp).toNat : Int)) at_ (at_ + ltr (s[m]'hp).toNat) rfl (by omega) (by omega) (by omega) W
          have HC := (h.below hbw2).cut (k := at_) (m := at_ + ltr (s[m]'hp).toNat) (by omega) hat
          rw [← List.map_take, ← List.map_drop, Nat.add_sub_cancel_left] at HC
          simp only [Nat.add_sub_cancel_left] at hcut
          have HU : Hid _ := unpackF_step hl HP.out HZ.out (by rw [HN.out]; exact hat)
          go_wp2_with fail
          refine (letterSize_any _ _).mono ?_
          rintro e w' ⟨rfl, rfl⟩
          go_wp2_with fail
          refine (number_any _ _ _ _ w2 HC (by omega)).mono ?_
          rintro e w' ⟨rfl, rfl⟩
          go_wp2_with (at_builtin; refine wpList_app rfl (.tmp 36) (.tmp 44) 104 rfl rfl ((Own.start how2.own how2.hbase).alloc _) i0 (.int .u64 0) 8 Tryd.underlying104 hi hz0 hz1 hz2 rfl _ 1 1 _ rfl (Sl.one _ _ _) ?_ ?_ ?_ ?_)
          · intro u hu; simp at hu; subst hu; rfl
          · omega
          · omega
          intro A4 c4 w4 hw4
          have HI4 := Lib.hid (hw4.kept_iter how2.own HI2.out)
          have how4 := how2.step hw4
          have e4 : out.map v64 ++ [Value.int .u64 (lev ((b.take (at_ + ltr (s[m]'hp).toNat)).drop at_) : Int)] = (out ++ [UInt64.ofNat (lev ((b.take (at_ + ltr (s[m]'hp).toNat)).drop at_))]).map v64 := by
            rw [List.map_append, List.map_cons, List.map_nil, v64_lev _ (by rw [List.length_drop, List.length_take]; omega)]
          rw [e4] at how4
          clear hw4 how2 how e4
          go_wp2
          exact ⟨⟨m + 1, by omega, A4, _, c4, _, _, rfl, by go_num, how4, HU.out, HS2.out, rfl, HI4.out⟩, by rw [iterPos_of HI4.out, iterPos_of HI.out]; omega⟩
        · have hnx : ∀ ty, (Instr.next (.pointer (some ⟨w1.heap.size + 1, 0, none⟩)) true ty).run Tryd.prog wr = _ := fun ty => Lib.run_next_end_at wr _ s m ty HI.out hp
          have HU : Hid (unpackF s.data.toList b = some out) := by
            have e1 := HP.out
            have e2 := HS.out
            rw [List.take_of_length_le (by rw [HL.out]; omega)] at e1 e2
            rw [HF.out] at e2
            obtain rfl : t = at_ := by simpa using e2
            rwa [List.take_of_length_le (by rw [HN.out, Hl.out]; exact Nat.le_refl _)] at e1
          go_wp2
          go_ret2
          rw [HU.out]
          exact ⟨_, _, _, rfl, how.to_sl, how.fresh.mono hb.size, hbw⟩
    · rw [unpackF_none (by rw [hf, HN.out]; simp; omega)]
      have HF := Lib.hid hf
      clear hf
      have hne : ((n : Int) != (t : Int)) = true := by simp; omega
      clear hl
      go_enter Tryd.func78, Tryd.ntmps78
      go_wp2_with fail
      refine (formBytes_any _ _ hs).mono ?_
      rintro e w1 ⟨rfl, hb⟩
      rw [HF.out]
      go_wp2
      go_ret2
      exact ⟨none, 0, 0, rfl, Sl.nil _, Nw.nil _ _ _, hb⟩
end Go.Proofs.YtnejiclghnigiaaDoor
namespace Go.Proofs.YtnejiclghnigiaaDoor
open Go.RowKit Go.Wag
set_option linter.unusedVariables false
set_option maxRecDepth 20000
attribute [local go_sem ↓] Go.wp_at_zero Go.wp_at_succ

def BytesOk (w : World) (r : List UInt8) (e : Ending) (w' : World) : Prop := ∃ A n c, e = .returned (.tuple #[.slice A n c, .int .i64 0]) ∧ Sl w' A n c (r.map v8) ∧ Nw 5 w w' A n c (r.map v8) ∧ Below w.heap.size w w'
def BytesNo (w : World) (no : Int) (e : Ending) (w' : World) : Prop := ∃ A n c, e = .returned (.tuple #[.slice A n c, .int .i64 no]) ∧ Sl w' A n c (([] : List UInt8).map v8) ∧ Nw 5 w w' A n c (([] : List UInt8).map v8) ∧ Below w.heap.size w w'
theorem BytesErr.ok {P : Program} {f : FuncId} {args : Array Value} {w : World} {r : Option (List UInt8)} {no : Int} {l : List UInt8} (h : Calls P f args w (BytesErr w r no)) (hr : r = some l) : Calls P f args w (BytesOk w l) := by
  subst hr
  exact h.mono fun e w' ⟨A, n, c, he, hs, hf, hb⟩ => ⟨A, n, c, he, hs, hf, hb⟩
theorem BytesErr.no {P : Program} {f : FuncId} {args : Array Value} {w : World} {r : Option (List UInt8)} {no : Int} (h : Calls P f args w (BytesErr w r no)) (hr : r = none) : Calls P f args w (BytesNo w no) := by
  subst hr
  exact h.mono fun e w' ⟨A, n, c, he, hs, hf, hb⟩ => ⟨A, n, c, he, hs, hf, hb⟩
def NumOk (w : World) (x : Nat) (r : List UInt8) (e : Ending) (w' : World) : Prop := ∃ A n c, e = .returned (.tuple #[.int .u64 (x : Int), .slice A n c, .int .i64 0]) ∧ Sl w' A n c (r.map v8) ∧ Nw 5 w w' A n c (r.map v8) ∧ Below w.heap.size w w'
def NumNo (w : World) (no : Int) (e : Ending) (w' : World) : Prop := ∃ A n c, e = .returned (.tuple #[.int .u64 0, .slice A n c, .int .i64 no]) ∧ Sl w' A n c (([] : List UInt8).map v8) ∧ Nw 5 w w' A n c (([] : List UInt8).map v8) ∧ Below w.heap.size w w'
theorem NumErr.ok {P : Program} {f : FuncId} {args : Array Value} {w : World} {r : Option (Nat × List UInt8)} {no : Int} {x : Nat} {l : List UInt8} (h : Calls P f args w (NumErr w r no)) (hr : r = some (x, l)) : Calls P f args w (NumOk w x l) := by
  subst hr
  exact h.mono fun e w' ⟨A, n, c, he, hs, hf, hb⟩ => ⟨A, n, c, he, hs, hf, hb⟩
theorem NumErr.no {P : Program} {f : FuncId} {args : Array Value} {w : World} {r : Option (Nat × List UInt8)} {no : Int} (h : Calls P f args w (NumErr w r no)) (hr : r = none) : Calls P f args w (NumNo w no) := by
  subst hr
  exact h.mono fun e w' ⟨A, n, c, he, hs, hf, hb⟩ => ⟨A, n, c, he, hs, hf, hb⟩
def NumsOk (w : World) (r : List UInt64) (e : Ending) (w' : World) : Prop := ∃ A n c, e = .returned (.tuple #[.slice A n c, .int .i64 0]) ∧ Sl w' A n c (r.map v64) ∧ Nw 84 w w' A n c (r.map v64) ∧ Below w.heap.size w w'
def NumsNo (w : World) (no : Int) (e : Ending) (w' : World) : Prop := ∃ A n c, e = .returned (.tuple #[.slice A n c, .int .i64 no]) ∧ Sl w' A n c (([] : List UInt64).map v64) ∧ Nw 84 w w' A n c (([] : List UInt64).map v64) ∧ Below w.heap.size w w'
theorem NumsErr.ok {P : Program} {f : FuncId} {args : Array Value} {w : World} {r : Option (List UInt64)} {no : Int} {l : List UInt64} (h : Calls P f args w (NumsErr w r no)) (hr : r = some l) : Calls P f args w (NumsOk w l) := by
  subst hr
  exact h.mono fun e w' ⟨A, n, c, he, hs, hf, hb⟩ => ⟨A, n, c, he, hs, hf, hb⟩
theorem NumsErr.no {P : Program} {f : FuncId} {args : Array Value} {w : World} {r : Option (List UInt64)} {no : Int} (h : Calls P f args w (NumsErr w r no)) (hr : r = none) : Calls P f args w (NumsNo w no) := by
  subst hr
  exact h.mono fun e w' ⟨A, n, c, he, hs, hf, hb⟩ => ⟨A, n, c, he, hs, hf, hb⟩

theorem putF_ltr {bs : List UInt8} {c : UInt8} {x : UInt64} (hc : ltr c.toNat ≠ 0) (hf : fitsB x.toNat (ltr c.toNat) = true) : putF bs ((x.toNat : Int)).toNat (ltr c.toNat : Int) = some (bs ++ leb (ltr c.toNat) x.toNat) := by
  rw [putF_yes (ltr_isSz hc) (by simpa using hf)]
  simp
theorem putF_ltr_no {bs : List UInt8} {c : UInt8} {x : UInt64} (h : ltr c.toNat = 0 ∨ fitsB x.toNat (ltr c.toNat) = false) : putF bs ((x.toNat : Int)).toNat (ltr c.toNat : Int) = none := by
  rcases h with h | h
  · rw [h]; exact putF_no (.inl rfl)
  · exact putF_no (.inr (by simpa using h))

/-- The loop of the document's Pack. -/
def RefPackRel (l : List UInt8) (ns : List UInt64) (w : World) (x : Value) (wr : World) (pos : Nat) : Prop :=
  ∃ A m c bs, x = .slice A m c ∧ Sl wr A m c (bs.map v8) ∧ packF (l.take pos) (ns.take pos) = some bs ∧ m ≤ 8 * pos ∧ Nw 5 w wr A m c (bs.map v8) ∧ Below w.heap.size w wr

theorem takeF_ltr {b : List UInt8} {c : UInt8} (hc : ltr c.toNat ≠ 0) (hl : ltr c.toNat ≤ b.length) : takeF b (ltr c.toNat : Int) = some (lev (b.take (ltr c.toNat)), b.drop (ltr c.toNat)) := by
  rw [takeF_yes (ltr_isSz hc) (by simpa using hl)]
  simp
theorem takeF_ltr_no {b : List UInt8} {c : UInt8} (h : ltr c.toNat = 0 ∨ b.length < ltr c.toNat) : takeF b (ltr c.toNat : Int) = none := by
  rcases h with h | h
  · rw [h]; exact takeF_no (.inl rfl)
  · exact takeF_no (.inr (by simp; omega))

/-- The loop of the document's Unpack: what is left of form and bytes gives what is still to come. -/
def RefUnpackRel (l b : List UInt8) (w : World) (g : Nat) (x y : Value) (wr : World) (pos : Nat) : Prop :=
  ∃ A m c out A' m' c' rest, x = .slice A m c ∧ y = .slice A' m' c' ∧ Own g 84 w wr (.slice none 0 0) (.slice A m c) m (out.map v64) ∧ Sl wr A' m' c' (rest.map v8) ∧ unpackF l b = (unpackF (l.drop pos) rest).map (out ++ ·) ∧ m = pos ∧ m' ≤ 10000000000000

theorem drop_cons {l : List UInt8} {k : Nat} (hk : k < l.length) : l.drop k = l[k] :: l.drop (k + 1) := List.drop_eq_getElem_cons hk

/-- Lists of numbers held against each other: the world is as it was, but for draws. -/
def SamePost (w : World) (r : Bool) (e : Ending) (w' : World) : Prop := e = .returned (.bool r) ∧ ∃ q, w' = w.drewN q

theorem same_no {xs ys : List UInt64} {k : Nat} (h1 : k < xs.length) (h2 : k < ys.length) (h : xs[k].toNat ≠ ys[k].toNat) : decide (xs = ys) = false := by
  simp only [decide_eq_false_iff_not]
  rintro rfl
  exact h rfl

end Go.Proofs.YtnejiclghnigiaaDoor
namespace Go.Proofs.YtnejiclghnigiaaDoor
open Go.RowKit Go.Wag
set_option linter.unusedVariables false
set_option maxRecDepth 20000

theorem drewN_below {B : Nat} {a w : World} (h : Below B a w) (n : Nat) : Below B a (w.drewN n) := ⟨h.os, h.tape, h.output, h.size, h.block⟩
theorem SamePost.below {w w' : World} {r : Bool} {e : Ending} (h : SamePost w r e w') : e = .returned (.bool r) ∧ Below w.heap.size w w' := by
  obtain ⟨he, q, rfl⟩ := h
  exact ⟨he, drewN_below (Below.refl _ _) q⟩
theorem un9 : Tryd.prog.underlying 9 = some .string := by kernel_rfl
/-- 'string(b)' at this program's types. -/
theorem str_of {w : World} {A : Option Addr} {n c : Nat} {l : List UInt8} (h : Sl w A n c (l.map v8)) : (convert 24 9 (.slice A n c)).run Tryd.prog w = .ok (.string ⟨l.toArray⟩) w :=
  h.run_string 24 9 5 Tryd.underlying24 Tryd.underlying5 un9
theorem sl8 (w : World) (l : List UInt8) (hl : l.length ≤ 1000) : Sl (w.alloc (.cells (l.map v8).toArray 5)) (some ⟨w.heap.size, 0, none⟩) l.length l.length (l.map v8) := by
  have := Sl.new w (l.map v8) 5 (by simp; omega)
  simpa using this
theorem sl64 (w : World) (l : List UInt64) (hl : l.length ≤ 1000) : Sl (w.alloc (.cells (l.map v64).toArray 84)) (some ⟨w.heap.size, 0, none⟩) l.length l.length (l.map v64) := by
  have := Sl.new w (l.map v64) 84 (by simp; omega)
  simpa using this

theorem sl8_at (w : World) (l : List UInt8) (H : Nat) (hH : w.heap.size = H) (hl : l.length ≤ 1000) : Sl (w.alloc (.cells (l.map v8).toArray 5)) (some ⟨H, 0, none⟩) l.length l.length (l.map v8) := by
  subst hH; exact sl8 w l hl
theorem sl64_at (w : World) (l : List UInt64) (H : Nat) (hH : w.heap.size = H) (hl : l.length ≤ 1000) : Sl (w.alloc (.cells (l.map v64).toArray 84)) (some ⟨H, 0, none⟩) l.length l.length (l.map v64) := by
  subst hH; exact sl64 w l hl

def AwakePost (w : World) (e : Ending) (w' : World) : Prop := e = .returned (.bool true) ∧ Below w.heap.size w w'

end Go.Proofs.YtnejiclghnigiaaDoor
namespace Go.Proofs.YtnejiclghnigiaaDoor
open Go.RowKit Go.Wag
set_option linter.unusedVariables false
set_option maxRecDepth 20000

theorem Sum_any (A : Option Addr) (n c : Nat) (l : List UInt8) (w : World) (hT : Tab w) (h : Sl w A n c (l.map v8)) :
    Calls Tryd.prog 63 #[.slice A n c] w fun e w' => e = .returned (.int .u32 ((moreF 0#32 l).toNat : Int)) ∧ w = w' := by
  go_enter Tryd.func63, Tryd.ntmps63
  go_wp2_with fail
  refine Calls.mono (show Calls _ _ _ _ _ from More_any 0#32 A n c l w hT h) ?_
  rintro e w1 ⟨rfl, rfl⟩
  go_wp2
  go_ret
  exact ⟨rfl, rfl⟩

/-- New bytes; nothing old has turned. -/
def BytesNew (w : World) (r : List UInt8) (e : Ending) (w' : World) : Prop :=
  ∃ A n c, e = .returned (.slice A n c) ∧ Sl w' A n c (r.map v8) ∧ Nw 5 w w' A n c (r.map v8) ∧ Below w.heap.size w w'

theorem seal_put (l : List UInt8) (x : W32) (hx : x = moreF 0#32 l) : putF l ((x.toNat : Int)).toNat 4 = some (sealF l) := by
  have h := w32_lt x
  rw [putF_yes rfl (by rw [Int.toNat_natCast]; simpa [fitsB] using h), Int.toNat_natCast, hx]
  rfl
theorem conv64 (x : W32) : (x.toNat : Int) % 18446744073709551616 = (x.toNat : Int) := by have := w32i x; omega

set_option maxHeartbeats 400000 in
theorem Seal_any (A : Option Addr) (n c : Nat) (l : List UInt8) (w : World) (hT : Tab w) (h : Sl w A n c (l.map v8)) (hn : n ≤ 10000000000000) :
    Calls Tryd.prog 39 #[.slice A n c] w (BytesNew w (sealF l)) := by
  obtain ⟨x, hx⟩ : ∃ x, Aside (x = moreF 0#32 l) := ⟨_, rfl⟩
  have hc := conv64 x
  go_enter Tryd.func39, Tryd.ntmps39
  go_wp2_with fail
  refine (Sum_any A n c l w hT h).mono ?_
  rintro e w1 ⟨rfl, rfl⟩
  rw [← hx.out]
  go_wp2_with fail
  refine (BytesErr.ok (Put_any A n c l (x.toNat : Int) 4 w h hn (by omega) (by have := w32i x; omega)) (seal_put l x hx.out)).mono ?_
  rintro e w2 ⟨A2, n2, c2, rfl, s2, f2, b2⟩
  go_wp2
  go_ret
  exact ⟨A2, n2, c2, rfl, s2, f2, b2⟩

/-- Open's test: the last four bytes are the sum of those ahead. -/
theorem open_yes {l : List UInt8} (h4 : 4 ≤ l.length) (h : lev (l.drop (l.length - 4)) = (moreF 0#32 (l.take (l.length - 4))).toNat) : openF l = some (l.take (l.length - 4)) := by
  unfold openF
  rw [if_pos]
  refine ⟨h4, ?_⟩
  unfold sealF
  rw [← h]
  have hl : (l.drop (l.length - 4)).length = 4 := by rw [List.length_drop]; omega
  have e : leb 4 (lev (l.drop (l.length - 4))) = l.drop (l.length - 4) := by
    have := leb_lev (l.drop (l.length - 4))
    rwa [hl] at this
  rw [e, List.take_append_drop]
theorem open_no {l : List UInt8} (h4 : 4 ≤ l.length) (h : ¬ lev (l.drop (l.length - 4)) = (moreF 0#32 (l.take (l.length - 4))).toNat) : openF l = none := by
  unfold openF
  rw [if_neg]
  rintro ⟨_, hs⟩
  apply h
  have e : l.drop (l.length - 4) = leb 4 (moreF 0#32 (l.take (l.length - 4))).toNat := by
    have hd := congrArg (List.drop (l.length - 4)) hs
    unfold sealF at hd
    rw [List.drop_append_of_le_length (by rw [List.length_take]; omega), List.drop_eq_nil_of_le (by rw [List.length_take]; omega), List.nil_append] at hd
    exact hd.symm
  rw [e, lev_leb _ _ (w32_lt _)]
theorem open_short {l : List UInt8} (h4 : ¬ 4 ≤ l.length) : openF l = none := by
  unfold openF
  rw [if_neg (fun h => h4 h.1)]

set_option maxHeartbeats 400000 in
theorem Open_any (A : Option Addr) (n c : Nat) (l : List UInt8) (w : World) (hT : Tab w) (h : Sl w A n c (l.map v8)) (hn : n ≤ 10000000000000) :
    Calls Tryd.prog 80 #[.slice A n c] w (BytesErr w (openF l) 20) := by
  have HN : Hid (l.length = n) := h.len8
  have hcap := h.cap
  have hbig := h.big
  obtain ⟨i0, hi, hz0, hz1, hz2⟩ := info_parts i5
  by_cases h4 : (n : Int) < 4
  · rw [open_short (by rw [HN.out]; omega)]
    go_enter Tryd.func80, Tryd.ntmps80
    go_wp2
    go_ret2
    exact ⟨none, 0, 0, rfl, Sl.nil _, Nw.nil _ _ _, Below.refl _ _⟩
  · obtain ⟨m, rfl⟩ : ∃ m, n = m + 4 := ⟨n - 4, by omega⟩
    have hcut := fun W => run_cut (P := Tryd.prog) 24 5 un22 el22 sz5 A (m + 4) c .i64 (m : Int) m rfl (by omega) W
    simp only [Nat.add_sub_cancel_left] at hcut
    have hsub : ((m : Int) + 4 - 4) = (m : Int) := by omega
    have HC := h.from_ (k := m) (by omega)
    rw [Nat.add_sub_cancel_left, ← List.map_drop] at HC
    have HU := h.upto (m := m) (by omega)
    rw [← List.map_take] at HU
    have HD : Hid (takeF (l.drop m) 4 = some (lev (l.drop m), [])) := by
      show takeF (l.drop m) 4 = _
      have hl : (l.drop m).length = 4 := by rw [List.length_drop, HN.out]; omega
      rw [takeF_yes rfl (by rw [hl]; decide)]
      show some (lev ((l.drop m).take 4), (l.drop m).drop 4) = _
      rw [List.take_of_length_le (show (l.drop m).length ≤ 4 by omega), List.drop_eq_nil_of_le (show (l.drop m).length ≤ 4 by omega)]
    obtain ⟨x, hx⟩ : ∃ x, Aside (x = moreF 0#32 (l.take m)) := ⟨_, rfl⟩
    have hc := conv64 x
    have hmk := fun W => run_mk (P := Tryd.prog) 24 5 i0 (.int .u8 0) 1 Tryd.underlying24 hi hz0 hz1 hz2 rfl .i64 .i64 (m : Int) (m : Int) m m rfl rfl (by omega) (by omega) (by omega) W
    have hl : Hid (l.length - 4 = m) := by show l.length - 4 = m; rw [HN.out]; omega
    cases ht : ((lev (l.drop m) : Int) != (x.toNat : Int))
    · have HY := open_yes (l := l) (by rw [HN.out]; omega) (by rw [hl.out, ← hx.out]; have : (lev (l.drop m) : Int) = (x.toNat : Int) := by simpa using ht
                                                               omega)
      rw [hl.out] at HY
      rw [HY]
      clear HY
      go_enter Tryd.func80, Tryd.ntmps80
      go_wp2_with fail
      refine (NumErr.ok (Take_any _ 4 _ (l.drop m) 4 w HC (by omega)) HD.out).mono ?_
      rintro e w2 ⟨A2, n2, c2, rfl, s2, f2, b2⟩
      have hT2 := hT.below b2
      have HU2 := HU.below b2
      have h2 := h.below b2
      go_wp2_with fail
      refine (Sum_any A m c (l.take m) w2 hT2 HU2).mono ?_
      rintro e w3 ⟨rfl, rfl⟩
      rw [← hx.out]
      have HO := Own.made w2 (.int .u8 0) 5 m m (by omega) (by omega)
      have HC2 := h2.alloc (.cells (mk0 (.int .u8 0) m) 5)
      go_wp2_with (with_reducible refine wpList_cpy rfl (.tmp 36) (.tmp 37) 24 24 rfl rfl HO Tryd.underlying24 sz5 _ _ _ _ rfl HC2 (oneCell8 l) ?_; intro w4 hw4)
      have e4 : (l.map v8).take m ++ (List.replicate m (Value.int .u8 0)).drop (m + 4) = (l.take m).map v8 := by
        rw [List.drop_eq_nil_of_le (by simp), List.append_nil, List.map_take]
      rw [e4] at hw4
      have hB := hw4.below_made
      go_wp2
      go_ret2
      exact ⟨_, _, _, rfl, hw4.to_sl, hw4.fresh.mono b2.size, b2.trans (hB.mono b2.size)⟩
    · have HY := open_no (l := l) (by rw [HN.out]; omega) (by rw [hl.out, ← hx.out]; have : ¬ (lev (l.drop m) : Int) = (x.toNat : Int) := by simpa using ht
                                                              omega)
      rw [HY]
      clear HY
      go_enter Tryd.func80, Tryd.ntmps80
      go_wp2_with fail
      refine (NumErr.ok (Take_any _ 4 _ (l.drop m) 4 w HC (by omega)) HD.out).mono ?_
      rintro e w2 ⟨A2, n2, c2, rfl, s2, f2, b2⟩
      have hT2 := hT.below b2
      have HU2 := HU.below b2
      have h2 := h.below b2
      go_wp2_with fail
      refine (Sum_any A m c (l.take m) w2 hT2 HU2).mono ?_
      rintro e w3 ⟨rfl, rfl⟩
      rw [← hx.out]
      go_wp2
      go_ret2
      exact ⟨none, 0, 0, rfl, Sl.nil _, Nw.nil _ _ _, b2⟩
end Go.Proofs.YtnejiclghnigiaaDoor
namespace Go.Wag
open Go.RowKit
set_option linter.unusedVariables false
set_option maxRecDepth 20000
/-- Records as elements of a slice. -/
def recE : Elt Rp where
  k := 3
  rd F w vs r := ∃ A c, vs = [.int .i64 r.k, .int .i64 r.s, .slice A r.l.length c] ∧ Sl w A r.l.length c (r.l.map v8) ∧ (0 < r.l.length → ∀ ad, A = some ad → F ad.block)
  pos := by decide
  len := fun ⟨A, c, h, _⟩ => by rw [h]; rfl
  keep := fun ⟨A, c, h, hS, hA⟩ hs hk => ⟨A, c, h, ⟨hS.len, hS.cap, hS.big, fun hn => by
    obtain ⟨ad, e, hb, hc⟩ := hS.cells hn
    exact ⟨ad, e, Nat.lt_of_lt_of_le hb hs, fun j u hu => (hk _ (by rw [add_block]; exact hb) (by rw [add_block]; exact hA hn ad e)).trans (hc j u hu)⟩⟩, hA⟩
  imp := fun ⟨A, c, h, hS, hA⟩ hF => ⟨A, c, h, hS, fun hn ad e => by
    obtain ⟨ad', e', hb, _⟩ := hS.cells hn
    cases e.symm.trans e'
    exact hF _ hb (hA hn ad e)⟩
/-- Record i of a slice. -/
theorem Rs.rec_at {F : Nat → Prop} {w : World} {A : Option Addr} {n c : Nat} {rs : List Rp} (h : Rs recE F w A n c rs) {i : Nat} (hi : i < n) : ∃ g o r Ai ci, A = some ⟨g, o, none⟩ ∧ F g ∧ g < w.heap.size ∧ rs[i]? = some r ∧
    w.cell? ⟨g, o + i * 3, none⟩ = some (.int .i64 r.k) ∧ w.cell? ⟨g, o + i * 3 + 1, none⟩ = some (.int .i64 r.s) ∧ w.cell? ⟨g, o + i * 3 + 2, none⟩ = some (.slice Ai r.l.length ci) ∧ Sl w Ai r.l.length ci (r.l.map v8) ∧ (0 < r.l.length → ∀ ad, Ai = some ad → F ad.block) := by
  obtain ⟨g, o, r, vs, e, hF, hg, hr, ⟨Ai, ci, rfl, hS, hA⟩, hc⟩ := h.at_ hi
  exact ⟨g, o, r, Ai, ci, e, hF, hg, hr, hc 0 _ rfl, hc 1 _ rfl, hc 2 _ rfl, hS, hA⟩
/-- A slice of records that came in. -/
theorem recs_of_sts {w : World} {a : Option Addr} {len cap : Nat} (h : IsSts [.num .i64, .num .i64, .row .u8] w a len cap) : ∃ rs, Rs recE (fun b => b < w.heap.size) w a len cap rs := by
  rcases h with ⟨rfl, rfl, rfl⟩ | ⟨ad, rfl, hl, hm, hc⟩
  · exact ⟨[], Rs.nil _ _ _⟩
  · have hm2 : cap ≤ 9223372036854775807 := by simpa [maxLen] using hm
    rcases Nat.eq_zero_or_pos len with h0 | h0
    · subst h0
      exact ⟨[], rfl, hl, hm2, fun h => absurd h (by omega)⟩
    · obtain ⟨g, o, sp⟩ := ad
      have hg : g < w.heap.size := by
        obtain ⟨v, cz, _⟩ := hc 0 h0 0 _ rfl
        by_cases hx : g < w.heap.size
        · exact hx
        · exfalso
          unfold World.cell? at cz
          rw [add_block, Array.getElem?_eq_none (by simp; omega)] at cz
          cases cz
      cases sp with
      | some sp =>
        exfalso
        obtain ⟨v, cz, _⟩ := hc 0 h0 0 _ rfl
        unfold World.cell? at cz
        split at cz
        · simp [Addr.add] at cz
        · cases cz
      | none =>
        obtain ⟨rs, hzl, hz⟩ := list_of (Q := fun i r => ∃ vs, recE.rd (fun b => b < w.heap.size) w vs r ∧ ∀ j v, vs[j]? = some v → w.cell? ⟨g, o + i * 3 + j, none⟩ = some v) len (fun i hi => by
          obtain ⟨v0, c0, st, rfl, _⟩ := hc i hi 0 _ rfl
          obtain ⟨v1, c1, rs, rfl, _⟩ := hc i hi 1 _ rfl
          obtain ⟨v2, c2, Ab, nb, cb, zz, rfl, hr⟩ := hc i hi 2 _ rfl
          obtain ⟨b, hb⟩ := hr.bytes
          obtain rfl : b.length = nb := hb.len8
          refine ⟨⟨st, rs, b⟩, _, ⟨Ab, cb, rfl, hb, fun hn ad e => ?_⟩, fun j v hj => ?_⟩
          · obtain ⟨ad', e', hb', _⟩ := hb.cells hn
            cases e.symm.trans e'
            exact hb'
          · rw [Addr.add_lit] at c0 c1 c2
            rcases j with _ | _ | _ | j
            · cases hj; exact c0
            · cases hj; rw [Nat.add_assoc]; exact c1
            · cases hj; rw [Nat.add_assoc]; exact c2
            · simp at hj)
        exact ⟨rs, hzl, hl, hm2, fun _ => ⟨g, o, rfl, hg, hg, hz⟩⟩
end Go.Wag
namespace Go.Proofs.YtnejiclghnigiaaDoor
open Go.RowKit Go.Wag
set_option linter.unusedVariables false
set_option maxRecDepth 20000

set_option maxHeartbeats 1000000 in
theorem rCheck_any (k s : Int) (A : Option Addr) (n c : Nat) (w : World) :
    Calls Tryd.prog 15 #[.agg #[.int .i64 k, .int .i64 s, .slice A n c]] w fun e w' => e = .returned (.int .i64 (rchkE k s n)) ∧ Below w.heap.size w w' := by
  go_enter Tryd.func15, Tryd.ntmps15
  go_wp2
  all_goals
    go_ret
    go_tidy
    refine ⟨congrArg (fun b => Ending.returned (.int .i64 b)) (?_ : (_ : Int) = _), (Below.refl _ _).alloc (Nat.le_refl _) _⟩
    unfold rchkE rchk
    split <;> simp_all <;> omega

def rsizeF (n : Int) : Int := if 0 ≤ n ∧ n ≤ 4096 then n + 20 else 0
theorem rSize_any (n : Int) (w : World) : Calls Tryd.prog 79 #[.int .i64 n] w fun e w' => e = .returned (.int .i64 (rsizeF n)) ∧ w = w' := by
  by_cases h : 0 ≤ n ∧ n ≤ 4096
  · have e1 : wrap64 (16 + n) = 16 + n := by unfold wrap64; omega
    have e2 : wrap64 (16 + n + 4) = 16 + n + 4 := by unfold wrap64; omega
    go_enter Tryd.func79, Tryd.ntmps79
    go_wp2
    all_goals
      go_ret
      exact ⟨ret_int (by rw [rsizeF, if_pos h]; omega), rfl⟩
  · rw [rsizeF, if_neg h]
    by_cases h0 : n < 0
    · go_enter Tryd.func79, Tryd.ntmps79
      go_wp2
      go_ret
      exact ⟨rfl, rfl⟩
    · have h1 : 4096 < n := by omega
      go_enter Tryd.func79, Tryd.ntmps79
      go_wp2
      go_ret
      exact ⟨rfl, rfl⟩
end Go.Proofs.YtnejiclghnigiaaDoor
namespace Go.Proofs.YtnejiclghnigiaaDoor
open Go.RowKit Go.Wag
set_option linter.unusedVariables false
set_option maxRecDepth 20000

theorem Tab.alloc {w : World} (hT : Tab w) (o : Obj) : Tab (w.alloc o) := hT.below ((Below.refl _ w).alloc (Nat.le_refl _) o)
theorem Sum_num (A : Option Addr) (n c : Nat) (l : List UInt8) (v : Int) (hv : ((moreF 0#32 l).toNat : Int) = v) (w : World) (hT : Tab w) (h : Sl w A n c (l.map v8)) :
    Calls Tryd.prog 63 #[.slice A n c] w fun e w' => e = .returned (.int .u32 v) ∧ w = w' := by
  subst hv
  exact Sum_any A n c l w hT h
theorem More_num (s : W32) (sv : Int) (hs : (s.toNat : Int) = sv) (A : Option Addr) (n c : Nat) (l : List UInt8) (v : Int) (hv : ((moreF s l).toNat : Int) = v) (w : World) (hT : Tab w) (h : Sl w A n c (l.map v8)) :
    Calls Tryd.prog 72 #[.int .u32 sv, .slice A n c] w fun e w' => e = .returned (.int .u32 v) ∧ w = w' := by
  subst hv hs
  exact More_any s A n c l w hT h
/-- '[]byte("..")' of a constant: its row bears a mark. -/
theorem kc (w : World) (C : Array Value) (n c : Nat) :
    (convert 24 24 (.slice (some ⟨w.heap.size, 0, none⟩) n c)).run Tryd.prog (w.alloc (.cells C 5)) = .ok (.slice (some ⟨w.heap.size, 0, none⟩) n c) (w.alloc (.cells C 5 (C.size, C.size + 1))) :=
  Lib.run_convert_bytes_const w 24 5 C n c Tryd.underlying24 Tryd.underlying5
theorem slm (w : World) (l : List UInt8) (fr : Nat × Nat) (hl : l.length ≤ 1000) : Sl (w.alloc (.cells (l.map v8).toArray 5 fr)) (some ⟨w.heap.size, 0, none⟩) l.length l.length (l.map v8) :=
  ⟨by simp, Nat.le_refl _, by omega, fun _ => ⟨_, rfl, by simp, fun j u hu => by
    have : (w.alloc (.cells (l.map v8).toArray 5 fr)).cell? ⟨w.heap.size, j, none⟩ = (l.map v8).toArray[j]? := World.cell?_alloc_mark w _ _ fr j
    have h2 : ((⟨w.heap.size, 0, none⟩ : Addr).add j) = ⟨w.heap.size, j, none⟩ := by
      unfold Addr.add; split <;> simp_all
    rw [h2, this]
    simpa using hu⟩⟩

/-- A call that leaves the world: as one that turns nothing old (so that the world gets a new name). -/
theorem named {P : Program} {f : FuncId} {args : Array Value} {w : World} {v : Value} (h : Calls P f args w fun e w' => e = .returned v ∧ w = w') : Calls P f args w fun e w' => e = .returned v ∧ Below w.heap.size w w' :=
  h.mono fun e w' ⟨he, hw⟩ => ⟨he, hw ▸ Below.refl _ _⟩
theorem alloc_below {w w' : World} {o : Obj} (h : Below (w.alloc o).heap.size (w.alloc o) w') : Below w.heap.size w w' := ((Below.refl _ w).alloc (Nat.le_refl _) o).trans (h.mono (by simp))

end Go.Proofs.YtnejiclghnigiaaDoor
namespace Go.Proofs.YtnejiclghnigiaaDoor
open Go.RowKit Go.Wag
set_option linter.unusedVariables false
set_option maxRecDepth 20000

theorem wf_w32 {n : Int} (h : (Lit.int .u32 n).wf = true) : ∃ s : W32, n = (s.toNat : Int) := by
  have := bounds_u32 h
  refine ⟨BitVec.ofNat 32 n.toNat, ?_⟩
  rw [BitVec.toNat_ofNat]
  omega
theorem len_join (n : Nat) (h : ¬ (300 : Int) < (n : Int)) : min (max (n : Int) 0) 1073741824 = (n : Int) := by omega

end Go.Proofs.YtnejiclghnigiaaDoor
namespace Go.Proofs.YtnejiclghnigiaaDoor
open Go.RowKit Go.Wag
set_option linter.unusedVariables false
set_option maxRecDepth 20000

theorem Tab.drewN {w : World} (hT : Tab w) (n : Nat) : Tab (w.drewN n) := hT
theorem Sum_quiet (A : Option Addr) (n c : Nat) (l : List UInt8) (v : Int) (hv : ((moreF 0#32 l).toNat : Int) = v) (w : World) (hT : Tab w) (h : Sl w A n c (l.map v8)) (k : Nat) :
    Calls Tryd.prog 63 #[.slice A n c] (w.drewN k) fun e w' => e = .returned (.int .u32 v) ∧ w' = w.drewN k :=
  (Sum_num A n c l v hv _ (hT.drewN k) (h.drewN k)).mono fun e w' ⟨he, hw⟩ => ⟨he, hw.symm⟩
theorem len_join2 (n m : Nat) (h : ¬ (300 : Int) < (n : Int)) (h2 : ¬ (300 : Int) < (m : Int)) : min (max ((n : Int) + (m : Int)) 0) 1073741824 = ((n + m : Nat) : Int) := by omega

end Go.Proofs.YtnejiclghnigiaaDoor
namespace Go.Proofs.YtnejiclghnigiaaDoor
open Go.RowKit Go.Wag
set_option linter.unusedVariables false
set_option maxRecDepth 20000

theorem wf_b8 {n : Int} (h : (Lit.int .u8 n).wf = true) : ∃ s : UInt8, n = (s.toNat : Int) := by
  have := wf_u8 h
  refine ⟨UInt8.ofNat n.toNat, ?_⟩
  have e : (UInt8.ofNat n.toNat).toNat = n.toNat % 256 := by simp
  omega
theorem xor8 (c d : UInt8) : bits .xor .u8 (c.toNat : Int) (d.toNat : Int) = ((c ^^^ d).toNat : Int) := by
  rw [u8_xor_nat _ _ c.toNat_lt d.toNat_lt, UInt8.toNat_xor]
theorem set_v8 (l : List UInt8) (k : Nat) (d : UInt8) : (l.map v8).set k (.int .u8 (d.toNat : Int)) = (l.set k d).map v8 := by
  rw [List.map_set]; rfl
/-- A text of which one byte is changed has the same sum just if it is not. -/
theorem sum_set (l : List UInt8) (k : Nat) (hk : k < l.length) (d : UInt8) : (((moreF 0#32 (l.set k (l[k] ^^^ d))).toNat : Int) == ((moreF 0#32 l).toNat : Int)) = ((d.toNat : Int) == 0) := by
  rw [Bool.eq_iff_iff, beq_iff_eq, beq_iff_eq]
  constructor
  · intro h
    have h1 : moreF 0#32 (l.set k (l[k] ^^^ d)) = moreF 0#32 l := BitVec.eq_of_toNat_eq (by omega)
    unfold moreF at h1
    have h2 : raw (0#32 ^^^ ones) (l.set k (l[k] ^^^ d)) = raw (0#32 ^^^ ones) l := by
      have := congrArg (· ^^^ ones) h1
      simpa only [BitVec.xor_assoc, BitVec.xor_self, BitVec.xor_zero] using this
    rw [raw_set_ne hk h2]; rfl
  · intro h
    have : d = 0 := UInt8.toNat_inj.1 (by show d.toNat = 0; omega)
    subst this
    rw [UInt8.xor_zero, List.set_getElem_self]

end Go.Proofs.YtnejiclghnigiaaDoor
namespace Go.Proofs.YtnejiclghnigiaaDoor
open Go.RowKit Go.Wag
set_option linter.unusedVariables false
set_option maxRecDepth 20000

theorem set_next (T : List UInt8) (k g : Nat) (hk : k < T.length) (z : Value) (x : UInt8) (hx : x = T[k]) : ((T.take k).map v8 ++ List.replicate (g + 1) z).set k (.int .u8 (x.toNat : Int)) = (T.take (k + 1)).map v8 ++ List.replicate g z := by
  have hl : ((T.take k).map v8).length = k := by rw [List.length_map, List.length_take]; omega
  rw [List.set_append_right _ _ (by omega), hl, Nat.sub_self, List.replicate_succ, List.set_cons_zero, List.take_succ_eq_append_getElem hk, List.map_append, List.append_assoc, hx]
  rfl
theorem xorL_at (a b : List UInt8) (k : Nat) (ha : k < a.length) (hb : k < b.length) : ∃ h : k < (xorL a b).length, (xorL a b)[k] = a[k] ^^^ b[k] := by
  refine ⟨by simp [xorL]; omega, ?_⟩
  simp [xorL]
theorem xorL_take (a b : List UInt8) (m : Nat) : (xorL a b).take m = xorL (a.take m) (b.take m) := by
  unfold xorL; rw [List.take_zipWith]

end Go.Proofs.YtnejiclghnigiaaDoor
namespace Go.Proofs.YtnejiclghnigiaaDoor
open Go.RowKit Go.Wag
set_option linter.unusedVariables false
set_option maxRecDepth 20000

theorem bit_form (v : W32) (k : Nat) : (((v.toNat : Int) / 2 ^ k).tmod 2 == 1) = v.getLsbD k := by
  have e : (v.toNat : Int) / 2 ^ k = ((v.toNat / 2 ^ k : Nat) : Int) := by
    have h2 : (2 : Int) ^ k = ((2 ^ k : Nat) : Int) := by simp
    rw [h2]; exact (Int.natCast_ediv _ _).symm
  rw [e, Int.tmod_eq_emod_of_nonneg (Int.natCast_nonneg _), Bool.eq_iff_iff, beq_iff_eq]
  have : v.getLsbD k = decide (v.toNat / 2 ^ k % 2 = 1) := by
    rw [BitVec.getLsbD, Nat.testBit_eq_decide_div_mod_eq]
  rw [this, decide_eq_true_eq]
  generalize v.toNat / 2 ^ k = q
  omega
theorem bit_no (v : W32) (k : Nat) (h : v.getLsbD k = false) : (((v.toNat : Int) / 2 ^ k).tmod 2 == 1) = false := by rw [bit_form, h]
theorem bit_yes (v : W32) (k : Nat) (h : v.getLsbD k = true) : (((v.toNat : Int) / 2 ^ k).tmod 2 == 1) = true := by rw [bit_form, h]

theorem flip_form (x : UInt8) (r : Nat) (h : r < 8) : bits .xor .u8 (x.toNat : Int) (2 ^ r % 256) = ((x ^^^ (1 <<< UInt8.ofNat r)).toNat : Int) := by
  have e2 : ∀ i : Fin 8, ((2 : Int) ^ i.val % (256 : Int)) = ((1 <<< UInt8.ofNat i.val : UInt8).toNat : Int) := by decide
  have e3 : (2 : Int) ^ r % (256 : Int) = _ := e2 ⟨r, h⟩
  rw [e3, xor8]

end Go.Proofs.YtnejiclghnigiaaDoor
namespace Go.Proofs.YtnejiclghnigiaaDoor
open Go.RowKit Go.Wag
set_option linter.unusedVariables false
set_option maxRecDepth 20000

/-- The columns of an array. -/
def colOf (cs : List W32) (i : Nat) : W32 := cs.getD i 0#32
end Go.Proofs.YtnejiclghnigiaaDoor
namespace Go.Wag
open Go.RowKit

section
variable {P : Program} {ops : Array Oper} {rest : List Oper} {o : Oper} {a : Act} {w : World} {Q : Exit → Act → World → Prop}
/-- 'T{}': the zero array. -/
theorem wpList_zero (hgd : o.guard = none) (T : TypeId) (ho : o.op = .build T #[]) (v : Value) (hz : ∀ W, (Instr.build T #[]).run P W = .ok v W) (h : wpList P ops Q rest (a.put o.dst v) w) : wpList P ops Q (o :: rest) a w := by
  refine wpList_plain hgd fun K hK => ?_
  have hz' := hz w
  unfold Oper.wp execOp
  simp only [ho, Sem.run_bind, Sem.run_pure, Result.andThen_ok, List.map_toArray, List.map_nil, hz']
  exact hK _ _ h
/-- A new block for a variable of type T. -/
theorem wpList_new (hgd : o.guard = none) (T : TypeId) (ho : o.op = .alloc T) (cs : Array Value) (t : TypeId) (hz : ∀ W : World, (Instr.alloc T true (.tuple #[])).run P W = .ok (.pointer (some ⟨W.heap.size, 0, none⟩)) (W.alloc (.cells cs t))) (h : wpList P ops Q rest (a.put o.dst (.pointer (some ⟨w.heap.size, 0, none⟩))) (w.alloc (.cells cs t))) : wpList P ops Q (o :: rest) a w := by
  refine wpList_plain hgd fun K hK => ?_
  have hz' := hz w
  unfold Oper.wp execOp
  simp only [ho, Sem.run_bind, Sem.run_pure, Result.andThen_ok, hz']
  exact hK _ _ h
end

theorem setRow_size (w : World) (g : Nat) (cs : Array Value) : (w.setRow g cs).heap.size = w.heap.size := by simp [World.setRow]
theorem below_setRow {B : Nat} {a w : World} (h : Below B a w) {g : Nat} (hg : B ≤ g) (cs : Array Value) : Below B a (w.setRow g cs) :=
  h.trans ⟨rfl, rfl, rfl, Nat.le_of_eq (setRow_size w g cs).symm, fun k hk => setRow_other w g k cs (by omega)⟩
end Go.Wag
namespace Go.Proofs.YtnejiclghnigiaaDoor
open Go.RowKit Go.Wag
set_option linter.unusedVariables false
set_option maxRecDepth 20000

def pcols (M k : Nat) : List W32 := (List.range k).map (fun j => steps M (1#32 <<< j)) ++ List.replicate (32 - k) 0#32
theorem pcols_len (M k : Nat) (hk : k ≤ 32) : (pcols M k).length = 32 := by simp [pcols]; omega
theorem pcols_set (M k : Nat) (hk : k < 32) : (pcols M k).set k (steps M (1#32 <<< k)) = pcols M (k + 1) := by
  unfold pcols
  rw [List.set_append_right _ _ (by simp), show 32 - k = (32 - (k + 1)) + 1 by omega, List.replicate_succ]
  simp [List.range_succ]
theorem pcols_at (M i : Nat) (hi : i < 32) : colOf (pcols M 32) i = steps M (1#32 <<< i) := by
  simp [colOf, pcols, hi]
theorem colF_congr {m m' : Nat → W32} : ∀ (n : Nat) (v : W32), (∀ i, i < n → m i = m' i) → colF m n v = colF m' n v
  | 0, _, _ => rfl
  | n + 1, v, h => by rw [colF, colF, colF_congr n v (fun i hi => h i (by omega)), h n (by omega)]
theorem col_steps (M : Nat) (v : W32) : colF (colOf (pcols M 32)) 32 v = steps M v := by
  rw [colF_congr 32 v (fun i hi => pcols_at M i hi), colF_all]
theorem exec_load_row {P : Program} {ρ : Operand → Value} {o : Oper} {w : World} (hgd : o.guard = none) (ty : TypeId) (x : Operand) (ho : o.op = .load ty x)
    (g : Nat) (hx : ρ x = .pointer (some ⟨g, 0, none⟩)) (t : TypeId) (cs : Array Value) (fr : Nat × Nat) (d : TypeDesc) (hg : w.heap[g]? = some (.cells cs t fr))
    (hu : P.underlying ty = some d) (hd : (match d with | .struct _ | .array _ _ => true | _ => false) = true) (hi : (P.info? ty).map (·.size) = some cs.size) : (execOp ρ o).run P w = .ok (.value (.agg cs)) w := by
  unfold execOp
  simp only [ho, hx, Instr.loadAt, Instr.sureAddr, Sem.run_bind, Sem.run_pure, Result.andThen_ok, run_loadVar_row w g t ty cs fr d hg hu hd hi]

/-- Thirty-two noughts. -/
def zero32 : Array Value := ((List.replicate 32 0#32).map v32).toArray
theorem one32 (cs : List W32) : (cs.map v32).toArray.all (·.oneCell') = true := by
  rw [Array.all_eq_true_iff_forall_mem]
  intro v hv
  obtain ⟨x, _, rfl⟩ := List.mem_map.1 (by simpa using hv)
  rfl
theorem one_zero32 : zero32.all (·.oneCell') = true := one32 _
theorem shl1_32 (k : Nat) (h : k < 32) : (2 : Int) ^ k % 4294967296 = ((1#32 <<< k).toNat : Int) := by
  have : ∀ i : Fin 32, (2 : Int) ^ i.val % (4294967296 : Int) = ((1#32 <<< i.val).toNat : Int) := by decide +kernel
  exact this ⟨k, h⟩
theorem colOf_eq (cs : List W32) (k : Nat) (h : k < cs.length) : colOf cs k = cs[k] := by simp [colOf, List.getD, h]

end Go.Proofs.YtnejiclghnigiaaDoor
namespace Go.Proofs.YtnejiclghnigiaaDoor
open Go.RowKit Go.Wag
set_option linter.unusedVariables false
set_option maxRecDepth 20000

theorem openF_eq {l : List UInt8} (h4 : 4 ≤ l.length) : openF l = if sealF (l.take (l.length - 4)) = l then some (l.take (l.length - 4)) else none := by
  unfold openF
  by_cases h : sealF (l.take (l.length - 4)) = l
  · rw [if_pos ⟨h4, h⟩, if_pos h]
  · rw [if_neg (fun e => h e.2), if_neg h]

end Go.Proofs.YtnejiclghnigiaaDoor
namespace Go.Proofs.YtnejiclghnigiaaDoor
open Go.RowKit Go.Wag
set_option linter.unusedVariables false
set_option maxRecDepth 20000

theorem rchkE_yes {k s n : Int} (h : rchk k s n = true) : rchkE k s n = 0 := by simp [rchkE, h]
theorem rchkE_no {k s n : Int} (h : rchk k s n = false) : rchkE k s n = 50 := by simp [rchkE, h]

/-- The four numbers of a head, in a row. -/
theorem sl_head (w : World) {k s : Int} {n : Nat} (h : rchk k s n = true) :
    Sl (w.alloc (.cells #[.int .u64 1196184151, .int .u64 k, .int .u64 (n : Int), .int .u64 s] 84)) (some ⟨w.heap.size, 0, none⟩) 4 4 ([1196184151, UInt64.ofNat k.toNat, UInt64.ofNat n, UInt64.ofNat s.toNat].map v64) := by
  have ha := rchk_all h
  have e1 : ((UInt64.ofNat k.toNat).toNat : Int) = k := by rw [nat64 (by omega)]; omega
  have e2 : ((UInt64.ofNat n).toNat : Int) = n := nat64 (by omega)
  have e3 : ((UInt64.ofNat s.toNat).toNat : Int) = s := by rw [nat64 (by omega)]; omega
  have e4 : [1196184151, UInt64.ofNat k.toNat, UInt64.ofNat n, UInt64.ofNat s.toNat].map v64 = [.int .u64 1196184151, .int .u64 k, .int .u64 (n : Int), .int .u64 s] := by
    simp only [List.map_cons, List.map_nil, v64, e1, e2, e3]
    rfl
  rw [e4]
  exact Sl.new w _ _ (by simp)

theorem wr_yes {k s : Int} {n : Nat} {l : List UInt8} (hl : l.length = n) (h : rchk k s n = true) : wrF ⟨k, s, l⟩ = some (sealF (headF k.toNat n s.toNat ++ l)) := by
  rw [wrF_yes (by unfold Rp.ok; rw [hl]; exact h)]
  unfold recB
  rw [hl]
theorem wr_no {k s : Int} {n : Nat} {l : List UInt8} (hl : l.length = n) (h : rchk k s n = false) : wrF ⟨k, s, l⟩ = none := wrF_no (by unfold Rp.ok; rw [hl]; exact h)

set_option maxHeartbeats 1000000 in
theorem rWrite_any (k s : Int) (A : Option Addr) (n c : Nat) (l : List UInt8) (w : World) (hT : Tab w) (h : Sl w A n c (l.map v8)) :
    Calls Tryd.prog 18 #[.agg #[.int .i64 k, .int .i64 s, .slice A n c]] w (BytesErr w (wrF ⟨k, s, l⟩) 50) := by
  have HN : Hid (l.length = n) := h.len8
  have hcap := h.cap
  have hbig := h.big
  obtain ⟨i0, hi, hz0, hz1, hz2⟩ := info_parts i5
  have bb := (Below.refl w.heap.size w).alloc (Nat.le_refl _) (.cells #[.int .i64 k, .int .i64 s, .slice A n c] 26)
  have V := Blk.new w #[.int .i64 k, .int .i64 s, .slice A n c] 26
  have hT0 := hT
  cases hk : rchk k s n
  · rw [wr_no HN.out hk]
    have he := rchkE_no hk
    go_enter Tryd.func18, Tryd.ntmps18
    go_wp2_with fail
    refine (rCheck_any k s A n c _).mono ?_
    rintro e w1 ⟨rfl, b1⟩
    replace bb := bb.trans (b1.mono bb.size)
    go_wp2
    go_ret2
    exact ⟨none, 0, 0, rfl, Sl.nil _, Nw.nil _ _ _, bb⟩
  · rw [wr_yes HN.out hk]
    have he := rchkE_yes hk
    have ha := rchk_all hk
    have c1 : k % 18446744073709551616 = k := by omega
    have c2 : (n : Int) % 18446744073709551616 = n := by omega
    have c3 : s % 18446744073709551616 = s := by omega
    replace h := h.alloc (.cells #[.int .i64 k, .int .i64 s, .slice A n c] 26)
    replace hT := hT.below bb
    go_enter Tryd.func18, Tryd.ntmps18
    go_wp2_with fail
    refine (rCheck_any k s A n c _).mono ?_
    rintro e w1 ⟨rfl, b1⟩
    replace V := V.under b1
    replace h := h.below b1
    replace hT := hT.below b1
    replace bb := bb.trans (b1.mono bb.size)
    clear b1
    obtain ⟨q0, q1, q2, r0, r1, r2⟩ := V.three
    go_wp2_with fail
    clear q0 q1 q2 r0 r1 r2
    refine (BytesErr.ok (Pack_any ⟨#[119, 104, 104, 113]⟩ _ 4 4 [1196184151, UInt64.ofNat k.toNat, UInt64.ofNat n, UInt64.ofNat s.toNat] _ (by exact sl_head w1 hk) (by decide)) (pack_head hk)).mono ?_
    rintro e w2 ⟨A2, n2, c2, rfl, s2, f2, b2⟩
    replace b2 := alloc_below b2
    obtain rfl : n2 = 16 := by have := s2.len8; rw [headF_length] at this; exact this.symm
    replace V := V.under b2
    replace h := h.below b2
    replace hT := hT.below b2
    replace f2 := f2.mono (w := w) (Nat.le_trans bb.size (by simp))
    replace bb := bb.trans (b2.mono bb.size)
    clear b2 s2
    obtain ⟨q0, q1, q2, r0, r1, r2⟩ := V.three
    have HO := Own.start f2 bb.size
    go_wp2_with (at_builtin; refine wpList_app rfl (.tmp 27) (.tmp 29) 24 rfl rfl HO i0 (.int .u8 0) 1 Tryd.underlying24 hi hz0 hz1 hz2 rfl _ _ _ _ rfl h (oneCell8 _) ?_ ?_ ?_)
    · omega
    · omega
    intro A3 c3' w3 hw3
    rw [← List.map_append] at hw3
    have hb3 := own_below f2 hw3 bb
    have s3 := hw3.to_sl
    replace hT := (hT0.below hb3)
    go_wp2_with fail
    refine (Seal_any _ _ _ _ w3 hT s3 (by omega)).mono ?_
    rintro e w4 ⟨A4, n4, c4, rfl, s4, f4, b4⟩
    go_wp2
    go_ret2
    exact ⟨_, _, _, rfl, s4, f4.mono hb3.size, hb3.trans (b4.mono hb3.size)⟩
end Go.Proofs.YtnejiclghnigiaaDoor
