/-
  Words for memory that all walks over this seat use: a slice that reads as a list ('Sl'), cuts of it, its conversion to a string. No program is named here.
-/
import Derived.WalkKit
import Derived.WalkSpells
import Derived.WalkLawsBesides
import Derived.Deep.AppendLies
import Derived.Lib.OthersKept
import Derived.Lib.Hide
import Derived.Lib.BufferRead
import Derived.Laws.CopyOwn
import Derived.Laws.IdiomStrings
import Derived.OpenShut
namespace Go.Wag
open Go.RowKit

/-- A byte, and a number of 64 bits, as cells. -/
def v8 (c : UInt8) : Value := .int .u8 (c.toNat : Int)
def v64 (c : UInt64) : Value := .int .u64 (c.toNat : Int)

theorem add_block (a : Addr) (n : Nat) : (a.add n).block = a.block := by unfold Addr.add; split <;> rfl
theorem add_add (a : Addr) (i j : Nat) : (a.add i).add j = a.add (i + j) := by
  unfold Addr.add
  by_cases hi : i = 0 <;> by_cases hj : j = 0 <;> simp [hi, hj, Nat.add_assoc]

/-- '.slice A n c' reads, in world w, as the cells xs (elements of one cell each); nil and empty are let in. -/
structure Sl (w : World) (A : Option Addr) (n c : Nat) (xs : List Value) : Prop where
  len : xs.length = n
  cap : n ≤ c
  big : c ≤ 9223372036854775807
  cells : 0 < n → ∃ ad, A = some ad ∧ ad.block < w.heap.size ∧ ∀ j u, xs[j]? = some u → w.cell? (ad.add j) = some u

/-- A slice value that reads as xs. -/
def IsSl (w : World) (v : Value) (xs : List Value) : Prop := ∃ A n c, v = .slice A n c ∧ Sl w A n c xs

section
variable {w w' : World} {A : Option Addr} {n c : Nat} {xs : List Value}

theorem Sl.nil (w : World) : Sl w none 0 0 [] := ⟨rfl, Nat.le_refl _, by omega, fun h => absurd h (by omega)⟩

theorem Sl.keep (h : Sl w A n c xs) (hs : w.heap.size ≤ w'.heap.size) (hk : ∀ p : Addr, p.block < w.heap.size → w'.cell? p = w.cell? p) : Sl w' A n c xs :=
  ⟨h.len, h.cap, h.big, fun hn => by
    obtain ⟨ad, e, hb, hc⟩ := h.cells hn
    exact ⟨ad, e, by omega, fun j u hu => (hk _ (by rw [add_block]; exact hb)).trans (hc j u hu)⟩⟩

theorem Sl.below (h : Sl w A n c xs) (hb : Below w.heap.size w w') : Sl w' A n c xs := h.keep hb.size fun _ hp => hb.cell hp

theorem Sl.drew (h : Sl w A n c xs) : Sl w.drew A n c xs := ⟨h.len, h.cap, h.big, h.cells⟩
theorem Sl.drewN (h : Sl w A n c xs) (k : Nat) : Sl (w.drewN k) A n c xs := ⟨h.len, h.cap, h.big, h.cells⟩
theorem Sl.alloc (h : Sl w A n c xs) (o : Obj) : Sl (w.alloc o) A n c xs := h.below ((Below.refl _ _).alloc (Nat.le_refl _) o)

theorem Sl.at_ {k : Nat} (h : Sl w A n c xs) (hk : k < n) : ∃ ad u, A = some ad ∧ ad.block < w.heap.size ∧ xs[k]? = some u ∧ w.cell? (ad.add k) = some u := by
  obtain ⟨ad, e, hb, hc⟩ := h.cells (by omega)
  have hl : k < xs.length := by have := h.len; omega
  exact ⟨ad, xs[k], e, hb, List.getElem?_eq_getElem hl, hc k _ (List.getElem?_eq_getElem hl)⟩

/-- The address of 's[k:]', as the model has it: at the capacity's end the old one stays. -/
def cutA (A : Option Addr) (c k : Nat) : Option Addr := if c = k then A else A.map (·.add k)

/-- 's[k:h]'. -/
theorem Sl.cut (h : Sl w A n c xs) {k m : Nat} (hk : k ≤ m) (hm : m ≤ n) : Sl w (cutA A c k) (m - k) (c - k) ((xs.take m).drop k) := by
  refine ⟨by rw [List.length_drop, List.length_take, h.len]; omega, by have := h.cap; omega, by have := h.big; omega, fun hn => ?_⟩
  obtain ⟨ad, rfl, hb, hc⟩ := h.cells (by omega)
  have hne : ¬ c = k := by have := h.cap; omega
  refine ⟨ad.add k, by simp [cutA, hne], by rw [add_block]; exact hb, fun j u hu => ?_⟩
  rw [add_add]
  rw [List.getElem?_drop, List.getElem?_take] at hu
  split at hu
  · exact hc _ u hu
  · cases hu

/-- 's[k:]'. -/
theorem Sl.from_ (h : Sl w A n c xs) {k : Nat} (hk : k ≤ n) : Sl w (cutA A c k) (n - k) (c - k) (xs.drop k) := by
  have := h.cut hk (Nat.le_refl n)
  rwa [List.take_of_length_le (by rw [h.len]; exact Nat.le_refl _)] at this

/-- 's[:m]'. -/
theorem Sl.upto (h : Sl w A n c xs) {m : Nat} (hm : m ≤ n) : Sl w A m c (xs.take m) := by
  refine ⟨by rw [List.length_take, h.len]; omega, by have := h.cap; omega, h.big, fun hn => ?_⟩
  obtain ⟨ad, rfl, hb, hc⟩ := h.cells (by omega)
  refine ⟨ad, rfl, hb, fun j u hu => hc j u ?_⟩
  rw [List.getElem?_take] at hu
  split at hu
  · exact hu
  · cases hu

/-- A block that was just laid, read whole. -/
theorem Sl.new (w : World) (l : List Value) (t : TypeId) (hl : l.length ≤ 9223372036854775807) : Sl (w.alloc (.cells l.toArray t)) (some ⟨w.heap.size, 0, none⟩) l.length l.length l :=
  ⟨rfl, Nat.le_refl _, hl, fun _ => ⟨_, rfl, by simp, fun j u hu => by
    have hb := heap_alloc_new w (.cells l.toArray t)
    have := World.news_of_block hb j u (by simpa using hu)
    exact this⟩⟩

theorem Sl.of_own {base : Nat} {e : TypeId} (h : w.ownsRow base e 1 (.slice A n c) n xs) : Sl w A n c xs := by
  have hl : xs.length = n := by simpa using h.1
  rcases h.2 with ⟨hv, rfl⟩ | ⟨g, cap, cur, hv, hb, hg, hnc, hm, hcs, ht⟩
  · obtain ⟨rfl, -, rfl⟩ : A = none ∧ 0 = 0 ∧ c = 0 := by simpa using hv
    exact ⟨hl, Nat.le_refl _, by omega, fun h => absurd h (by omega)⟩
  · obtain ⟨rfl, rfl⟩ : A = some ⟨g, 0, none⟩ ∧ c = cap := by simpa using hv
    exact ⟨hl, hnc, by simpa [maxLen] using hm, fun _ => ⟨_, rfl, (Array.getElem?_eq_some_iff.1 hg).1, h.cells (g := g) rfl⟩⟩

/-- A slice value that owns something is a slice value. -/
theorem own_form {base : Nat} {e : TypeId} {size : Nat} {v : Value} (h : w.ownsRow base e size v n xs) : ∃ A c, v = .slice A n c := by
  rcases h.2 with ⟨rfl, rfl⟩ | ⟨g, cap, cur, rfl, _⟩
  · exact ⟨_, _, rfl⟩
  · exact ⟨_, _, rfl⟩

theorem IsSl.of_own {base : Nat} {e : TypeId} {v : Value} (h : w.ownsRow base e 1 v n xs) : IsSl w v xs := by
  obtain ⟨A, c, rfl⟩ := own_form h
  exact ⟨A, n, c, rfl, Sl.of_own h⟩

theorem IsSl.below {v : Value} (h : IsSl w v xs) (hb : Below w.heap.size w w') : IsSl w' v xs := by
  obtain ⟨A, n, c, e, hs⟩ := h
  exact ⟨A, n, c, e, hs.below hb⟩
theorem IsSl.nil (w : World) : IsSl w (.slice none 0 0) [] := ⟨_, _, _, rfl, Sl.nil w⟩

/-- A slice of bytes: its byte at k. -/
theorem Sl.byte {l : List UInt8} {k : Nat} (h : Sl w A n c (l.map v8)) (hk : k < n) :
    ∃ ad, A = some ad ∧ ad.block < w.heap.size ∧ ∃ hl : k < l.length, w.cell? (ad.add k) = some (.int .u8 ((l[k]'hl).toNat : Int)) := by
  obtain ⟨ad, u, e, hb, hu, hc⟩ := h.at_ hk
  have hl : k < l.length := by have := h.len; simp at this; omega
  refine ⟨ad, e, hb, hl, ?_⟩
  rw [hc, ← hu]
  simp [v8, List.getElem?_eq_getElem hl]

/-- A slice of numbers: the one at k. -/
theorem Sl.num {l : List UInt64} {k : Nat} (h : Sl w A n c (l.map v64)) (hk : k < n) :
    ∃ ad, A = some ad ∧ ad.block < w.heap.size ∧ ∃ hl : k < l.length, w.cell? (ad.add k) = some (.int .u64 ((l[k]'hl).toNat : Int)) := by
  obtain ⟨ad, u, e, hb, hu, hc⟩ := h.at_ hk
  have hl : k < l.length := by have := h.len; simp at this; omega
  refine ⟨ad, e, hb, hl, ?_⟩
  rw [hc, ← hu]
  simp [v64, List.getElem?_eq_getElem hl]

theorem Sl.len8 {l : List UInt8} (h : Sl w A n c (l.map v8)) : l.length = n := by simpa using h.len
theorem Sl.len64 {l : List UInt64} (h : Sl w A n c (l.map v64)) : l.length = n := by simpa using h.len

/-- 'string(b)'. -/
theorem Sl.run_string {P : Program} {l : List UInt8} (h : Sl w A n c (l.map v8)) (src dst e : TypeId) (hs : P.underlying src = some (.slice e)) (he : P.underlying e = some (.int .u8)) (hd : P.underlying dst = some .string) :
    (convert src dst (.slice A n c)).run P w = .ok (.string ⟨l.toArray⟩) w := by
  have hl := h.len8
  rcases A with _ | ad
  · have hn : n = 0 := by
      rcases Nat.eq_zero_or_pos n with h0 | h0
      · exact h0
      · obtain ⟨ad, h, _⟩ := h.cells h0
        cases h
    subst hn
    have hln : l = [] := List.eq_nil_of_length_eq_zero hl
    subst hln
    exact Lib.run_convert_nil_bytes w src dst e c hs he hd
  · subst hl
    refine run_convert_bytes_back w src dst e ad c l hs he hd fun j hj => ?_
    obtain ⟨ad', e', _, hl', hc⟩ := h.byte hj
    injection e' with e'
    subst e'
    exact hc

theorem oneCell8 (l : List UInt8) : ∀ u ∈ l.map v8, u.oneCell' = true := by
  intro u hu
  obtain ⟨x, _, rfl⟩ := List.mem_map.1 hu
  rfl
theorem oneCell64 (l : List UInt64) : ∀ u ∈ l.map v64, u.oneCell' = true := by
  intro u hu
  obtain ⟨x, _, rfl⟩ := List.mem_map.1 hu
  rfl
end

/-- Two steps of growth, each at the row that the value then owns. -/
theorem grown_step {a b c : World} {v v' : Value} (h : a.grownBy b v.ownBlock) (hv : v'.ownBlock = v.ownBlock ∨ ∀ k, v'.ownBlock = some k → a.heap.size ≤ k) (k : b.grownBy c v'.ownBlock) : a.grownBy c v.ownBlock :=
  ⟨k.os.trans h.os, k.tape.trans h.tape, k.output.trans h.output, Nat.le_trans h.size k.size, fun i hi hne => (k.block i (Nat.lt_of_lt_of_le hi h.size) (fun e => by
    rcases hv with hv | hv
    · exact hne (e.trans hv)
    · have := hv i e.symm
      omega)).trans (h.block i hi hne)⟩

/-- Cells that were made are zeros. -/
theorem length_made (z : Array Value) (n : Nat) : (madeCells z n).toList.length = n := by simp [madeCells]

/-- v is, in world w, a row of its own (blocks from 'base' on) that reads as xs; from world w0 on, where the row was v0, nothing old but that row has turned. -/
structure Own (base : Nat) (e : TypeId) (w0 w : World) (v0 v : Value) (n : Nat) (xs : List Value) : Prop where
  own : w.ownsRow base e 1 v n xs
  grown : w0.grownBy w v0.ownBlock
  lies : v.ownBlock = v0.ownBlock ∨ ∀ k, v.ownBlock = some k → w0.heap.size ≤ k
  base_le : base ≤ w0.heap.size

section
variable {base : Nat} {e : TypeId} {w0 w : World} {v0 v : Value} {n : Nat} {xs : List Value}
theorem Own.start (h : w.ownsRow base e 1 v n xs) (hb : base ≤ w.heap.size) : Own base e w w v v n xs := ⟨h, World.grownBy.refl w _, .inl rfl, hb⟩
theorem Own.alloc (h : Own base e w0 w v0 v n xs) (o : Obj) : Own base e w0 (w.alloc o) v0 v n xs :=
  ⟨h.own.alloc o, h.grown.trans (World.grownBy_alloc w o _), h.lies, h.base_le⟩
theorem Own.drew (h : Own base e w0 w v0 v n xs) : Own base e w0 w.drew v0 v n xs :=
  ⟨h.own.drew, ⟨h.grown.os, h.grown.tape, h.grown.output, h.grown.size, h.grown.block⟩, h.lies, h.base_le⟩
theorem Own.drewN (h : Own base e w0 w v0 v n xs) (k : Nat) : Own base e w0 (w.drewN k) v0 v n xs :=
  ⟨h.own, ⟨h.grown.os, h.grown.tape, h.grown.output, h.grown.size, h.grown.block⟩, h.lies, h.base_le⟩
theorem Own.hbase (h : Own base e w0 w v0 v n xs) : base ≤ w.heap.size := Nat.le_trans h.base_le h.grown.size
theorem Own.sl (h : Own base e w0 w v0 v n xs) : IsSl w v xs := IsSl.of_own h.own
theorem Own.form (h : Own base e w0 w v0 v n xs) : ∃ A c, v = .slice A n c := own_form h.own
/-- Where the row began as nil, or among the blocks that are new since W. -/
theorem Own.below {B : Nat} {W : World} (h : Own base e w0 w v0 v n xs) (hb : Below B W w0) (hB : B ≤ w0.heap.size) (hv : ∀ k, v0.ownBlock = some k → B ≤ k) : Below B W w := hb.grown h.grown hB hv
/-- Another step of growth behind this one. -/
theorem Own.step {w1 : World} {v1 : Value} {m : Nat} {ys : List Value} (h : Own base e w0 w v0 v n xs) (k : Own base e w w1 v v1 m ys) : Own base e w0 w1 v0 v1 m ys :=
  ⟨k.own, grown_step h.grown h.lies k.grown, by
    rcases k.lies with k | k
    · rw [k]; exact h.lies
    · exact .inr fun i hi => Nat.le_trans h.grown.size (k i hi), h.base_le⟩
end

section
variable {P : Program} {base : Nat} {e : TypeId} {w0 w : World} {v0 v : Value} {n : Nat} {xs : List Value}
theorem run_app (h : Own base e w0 w v0 v n xs) (t ty : TypeId) (i : TypeInfo) (z : Value) (bytes : Nat) (ht : P.underlying t = some (.slice e)) (hi : P.info? e = some i) (hz : i.zero = some z)
    (hsize : i.size = 1) (hby : i.bytes = bytes) (hzs : z.cells.size = 1) (A : Option Addr) (m c : Nat) (news : List Value) (hs : Sl w A m c news) (h1 : ∀ u ∈ news, u.oneCell' = true)
    (hbytes : (n + m) * bytes ≤ 140737488355328) (h63 : n + m ≤ 9223372036854775807) :
    ∃ A' c' w', (Builtin.append_ #[t, t] ty #[v, .slice A m c]).run P w = .ok (.slice A' (n + m) c') w' ∧ Own base e w0 w' v0 (.slice A' (n + m) c') (n + m) (xs ++ news) := by
  by_cases hA : A = none
  · subst hA
    have hm : m = 0 := by
      rcases Nat.eq_zero_or_pos m with h0 | h0
      · exact h0
      · obtain ⟨ad, h, _⟩ := hs.cells h0
        cases h
    subst hm
    have hn : news = [] := List.eq_nil_of_length_eq_zero hs.len
    subst hn
    obtain ⟨A', c', rfl⟩ := h.form
    refine ⟨A', c', w, ?_, by simpa using h⟩
    rcases h.own.2 with ⟨hv, rfl⟩ | ⟨g, cap, cur, hv, _, _, hnc, _⟩
    · obtain ⟨rfl, -, rfl⟩ : A' = none ∧ 0 = 0 ∧ c' = 0 := by simpa using hv
      simp [Builtin.append_, run_underlying ht, sizeOf, typeInfo, hi, Builtin.lenOf, Builtin.firstCells]
    · obtain ⟨rfl, rfl⟩ : A' = some ⟨g, 0, none⟩ ∧ c' = cap := by simpa using hv
      simp [Builtin.append_, run_underlying ht, sizeOf, typeInfo, hi, Builtin.lenOf, Builtin.firstCells, hnc, storeCells]
  · obtain ⟨ad, rfl⟩ := Option.ne_none_iff_exists'.1 hA
    have hcells : ∀ j u, news[j]? = some u → w.cell? (ad.add j) = some u := by
      intro j u hu
      rcases Nat.eq_zero_or_pos m with h0 | h0
      · subst h0
        have hn : news = [] := List.eq_nil_of_length_eq_zero hs.len
        subst hn
        simp at hu
      · obtain ⟨ad', h, _, hc⟩ := hs.cells h0
        injection h with h
        subst h
        exact hc j u hu
    obtain ⟨v', w', hr, h2, h3, _, h5⟩ := run_append_own_at (P := P) w base t ty e i z 1 bytes ht hi hz hsize hby hzs (by decide) v n xs h.own ad m c news (by rw [hs.len]; omega) hcells h1 (by simp only [maxLen]; omega) hbytes h.hbase
    obtain ⟨A', c', rfl⟩ := own_form h2
    refine ⟨A', c', w', hr, h.step ⟨h2, h3, ?_, h.hbase⟩⟩
    rcases h5 with h5 | h5
    · exact .inl h5
    · exact .inr fun k hk => by rw [h5] at hk; injection hk with hk; omega

/-- 'out = append(out, xs...)', out a row of the call's own (or nil), xs whatever. -/
theorem wpList_app {ops : Array Oper} {rest : List Oper} {o : Oper} {a : Act} {Q : Exit → Act → World → Prop} (hgd : o.guard = none) (s x : Operand) (t : TypeId)
    (ho : o.op = .call { callee := .builtin .append, args := #[s, x], argTypes := #[t, t] }) (hs : a.eval s = v) (h : Own base e w0 w v0 v n xs)
    (i : TypeInfo) (z : Value) (bytes : Nat) (ht : P.underlying t = some (.slice e)) (hi : P.info? e = some i) (hz : i.zero = some z)
    (hsize : i.size = 1) (hby : i.bytes = bytes) (hzs : z.cells.size = 1) (A : Option Addr) (m c : Nat) (news : List Value) (hx : a.eval x = .slice A m c) (hsl : Sl w A m c news) (h1 : ∀ u ∈ news, u.oneCell' = true)
    (hbytes : (n + m) * bytes ≤ 140737488355328) (h63 : n + m ≤ 9223372036854775807)
    (hgo : ∀ A' c' w', Own base e w0 w' v0 (.slice A' (n + m) c') (n + m) (xs ++ news) → wpList P ops Q rest (a.put o.dst (.slice A' (n + m) c')) w') : wpList P ops Q (o :: rest) a w := by
  refine wpList_plain hgd fun K hK => ?_
  obtain ⟨A', c', w', hr, h2⟩ := run_app (P := P) h t o.type i z bytes ht hi hz hsize hby hzs A m c news hsl h1 hbytes h63
  unfold Oper.wp execOp
  simp only [ho, resolve, invoke, builtin, Sem.run_bind, Sem.run_pure, Result.andThen_ok, List.map_toArray, List.map_cons, List.map_nil, hs, hx, hr]
  exact hK _ _ (hgo A' c' w' h2)
end

/-- One new cell, in a block of its own. -/
theorem Sl.one (w : World) (u : Value) (t : TypeId) : Sl (w.alloc (.cells #[u] t)) (some ⟨w.heap.size, 0, none⟩) 1 1 [u] := Sl.new w [u] t (by simp)

/-- A row that 'make' lays: so many cells z. -/
def mk0 (z : Value) (c : Nat) : Array Value := Array.replicate c z

theorem madeCells_one (z : Value) (c : Nat) : madeCells #[z] c = mk0 z c := by
  apply Array.ext
  · simp [madeCells, mk0]
  · intro j h1 h2
    simp [madeCells, mk0, Nat.mod_one]

theorem run_mk {P : Program} (t e : TypeId) (i : TypeInfo) (z : Value) (bytes : Nat) (ht : P.underlying t = some (.slice e)) (hi : P.info? e = some i) (hz : i.zero = some z) (hsize : i.size = 1) (hby : i.bytes = bytes)
    (hzc : z.cells = #[z]) (kl kc : IntKind) (L C : Int) (n c : Nat) (hL : L = n) (hC : C = c) (hnc : n ≤ c) (hbytes : bytes * c ≤ 281474976710656) (h63 : c ≤ 9223372036854775807) (w : World) :
    (Instr.makeSlice t (.int kl L) (.int kc C)).run P w = .ok (.slice (some ⟨w.heap.size, 0, none⟩) n c) (w.alloc (.cells (mk0 z c) e)) := by
  subst hL hC hby
  have hb : (i.bytes : Int) * (c : Int) ≤ 281474976710656 := by
    have h : ((i.bytes * c : Nat) : Int) ≤ 281474976710656 := by omega
    rwa [Int.natCast_mul] at h
  have hr := run_make (P := P) w t e i z ht hi hz kl kc n c (by omega) (by omega) hb (by omega)
  simp only [Int.toNat_natCast, hsize, Nat.mul_one, hzc, madeCells_one] at hr
  exact hr

/-- What was just made is a row of one's own. -/
theorem Own.made (w : World) (z : Value) (e : TypeId) (n c : Nat) (hnc : n ≤ c) (hc : c ≤ 9223372036854775807) :
    Own w.heap.size e (w.alloc (.cells (mk0 z c) e)) (w.alloc (.cells (mk0 z c) e)) (.slice (some ⟨w.heap.size, 0, none⟩) n c) (.slice (some ⟨w.heap.size, 0, none⟩) n c) n (List.replicate n z) :=
  Own.start ⟨by simp, .inr ⟨w.heap.size, c, mk0 z c, rfl, Nat.le_refl _, heap_alloc_new w _, hnc, by simp only [maxLen]; omega, by simp [mk0], by
    simp [mk0, List.take_replicate, Nat.min_eq_left hnc]⟩⟩ (by simp)

section
variable {P : Program} {base : Nat} {e : TypeId} {w0 w : World} {v0 : Value} {n : Nat} {xs : List Value}
theorem run_cpy {Ad : Option Addr} {cd : Nat} (h : Own base e w0 w v0 (.slice Ad n cd) n xs) (dT sT ty : TypeId) (hu : P.underlying dT = some (.slice e)) (hsz : (P.info? e).map (·.size) = some 1)
    (A : Option Addr) (m c : Nat) (ys : List Value) (hs : Sl w A m c ys) (h1 : ∀ u ∈ ys, u.oneCell' = true) :
    ∃ w', (Builtin.copy_ #[dT, sT] ty #[.slice Ad n cd, .slice A m c]).run P w = .ok (goInt (Nat.min m n)) w' ∧ Own base e w0 w' v0 (.slice Ad n cd) n (ys.take n ++ xs.drop m) := by
  have hxl : xs.length = n := by simpa using h.own.1
  have hyl := hs.len
  obtain ⟨q, hq, hq'⟩ : ∃ q, Nat.min m n = q ∧ ((m ≤ n ∧ q = m) ∨ (n ≤ m ∧ q = n)) := ⟨min m n, rfl, by omega⟩
  rw [hq]
  by_cases h0 : q = 0
  · refine ⟨w, ?_, ?_⟩
    · rw [h0]; exact run_copy_none (P := P) w dT sT ty e Ad A n cd m c hu hsz (by rw [hq]; exact h0)
    · have e1 : ys.take n ++ xs.drop m = xs := by
        rcases (show m = 0 ∨ n = 0 by omega) with hm | hn
        · have : ys = [] := List.eq_nil_of_length_eq_zero (by omega)
          subst this; simp [hm]
        · have : xs = [] := List.eq_nil_of_length_eq_zero (by omega)
          subst this; simp [hn]
      rw [e1]; exact h
  · obtain ⟨ad, rfl, hb, hcells⟩ := hs.cells (by omega)
    obtain ⟨hlen, hn | ⟨g, cap, cur, hv, hbg, hg, hnc, hcm, hcs, ht⟩⟩ := h.own
    · exact absurd hn.2 (by omega)
    · obtain ⟨rfl, rfl⟩ : Ad = some ⟨g, 0, none⟩ ∧ cd = cap := by simpa using hv
      have hcl : (ys.take n).length = q := by
        rw [List.length_take, hyl]
        omega
      have hr := run_copy_row (P := P) w dT sT ty e g 0 n cd ad m c cur e (ys.take n) hu hsz hg (by rw [hcl, hq]) (fun j v hj => hcells j v (by
        rw [List.getElem?_take] at hj
        split at hj
        · exact hj
        · cases hj)) (by rw [hcl, hcs]; omega) (fun u hu' => h1 u (List.mem_of_mem_take hu'))
      rw [hcl] at hr
      refine ⟨_, hr, h.step ⟨⟨?_, .inr ⟨g, cd, _, rfl, hbg, setRow_heap w g cur _ e _ hg, hnc, hcm, ?_, ?_⟩⟩, ⟨rfl, rfl, rfl, by simp [World.setRow], fun k _ hk => setRow_other w g k _ (fun e => hk (by simp [Value.ownBlock, e]))⟩, .inl rfl, h.hbase⟩⟩
      · rw [List.length_append, hcl, List.length_drop, hxl]
        omega
      · simp only [List.size_toArray, List.length_append, hcl, List.take_zero, List.length_nil, List.length_drop, Array.length_toList]
        omega
      · rw [Nat.mul_one] at ht ⊢
        simp only [List.take_zero, List.nil_append, Nat.zero_add]
        rw [← ht]
        have hcurl : cur.toList.length = cd := by simpa using hcs
        rcases hq' with ⟨hnm, hm⟩ | ⟨hnm, hm⟩
        · rw [hm] at hcl ⊢
          rw [List.take_append, hcl, List.take_of_length_le (by omega : (ys.take n).length ≤ n)]
          congr 1
          rw [List.drop_take]
        · rw [hm] at hcl ⊢
          rw [List.take_append_of_le_length (by omega), List.take_of_length_le (by omega : (ys.take n).length ≤ n), List.drop_eq_nil_of_le (by rw [List.length_take]; omega), List.append_nil]

/-- 'copy(out, src)', out a row of the call's own. -/
theorem wpList_cpy {ops : Array Oper} {rest : List Oper} {o : Oper} {a : Act} {Q : Exit → Act → World → Prop} (hgd : o.guard = none) (d s : Operand) (dT sT : TypeId)
    (ho : o.op = .call { callee := .builtin .copy, args := #[d, s], argTypes := #[dT, sT] }) {Ad : Option Addr} {cd : Nat} (hd : a.eval d = .slice Ad n cd) (h : Own base e w0 w v0 (.slice Ad n cd) n xs)
    (hu : P.underlying dT = some (.slice e)) (hsz : (P.info? e).map (·.size) = some 1) (A : Option Addr) (m c : Nat) (ys : List Value) (hs : a.eval s = .slice A m c) (hsl : Sl w A m c ys) (h1 : ∀ u ∈ ys, u.oneCell' = true)
    (hgo : ∀ w', Own base e w0 w' v0 (.slice Ad n cd) n (ys.take n ++ xs.drop m) → wpList P ops Q rest (a.put o.dst (goInt (Nat.min m n))) w') : wpList P ops Q (o :: rest) a w := by
  refine wpList_plain hgd fun K hK => ?_
  obtain ⟨w', hr, h2⟩ := run_cpy (P := P) h dT sT o.type hu hsz A m c ys hsl h1
  unfold Oper.wp execOp
  simp only [ho, resolve, invoke, builtin, Sem.run_bind, Sem.run_pure, Result.andThen_ok, List.map_toArray, List.map_cons, List.map_nil, hs, hd, hr]
  exact hK _ _ (hgo w' h2)
end

/-- A row that began in the block that was made first: what lay before stands. -/
theorem Own.below_made {e : TypeId} {W w' : World} {o : Obj} {A : Option Addr} {n c m : Nat} {xs : List Value} {n0 c0 : Nat} (h : Own W.heap.size e (W.alloc o) w' (.slice (some ⟨W.heap.size, 0, none⟩) n0 c0) (.slice A n c) m xs) : Below W.heap.size W w' :=
  h.below ((Below.refl _ _).alloc (Nat.le_refl _) o) (by simp) (fun k hk => by simp [Value.ownBlock] at hk; omega)

/-- A row of one's own, as a slice that is read. -/
theorem Own.to_sl {base : Nat} {e : TypeId} {w0 w' : World} {v0 : Value} {A : Option Addr} {n c : Nat} {xs : List Value} (h : Own base e w0 w' v0 (.slice A n c) n xs) : Sl w' A n c xs := Sl.of_own h.own

/-- 's[k:]' as ONE value, whatever the capacity. -/
theorem run_cut {P : Program} (t : TypeId) (e : TypeId) (ht : P.underlying t = some (.slice (P.elem t))) (he : P.elem t = e) (hsz : (P.info? e).map (·.size) = some 1) (A : Option Addr) (n c : Nat) (kl : IntKind) (L : Int) (k : Nat) (hL : L = k) (hk : k ≤ n) (w : World) :
    (Instr.slice t (.slice A n c) (some (.int kl L)) none none).run P w = .ok (.slice (cutA A c k) (n - k) (c - k)) w := by
  subst hL he
  obtain ⟨i, hi, hs⟩ := Option.map_eq_some_iff.1 hsz
  rw [run_slice_l w t A n c ht kl k (by omega) (by omega)]
  simp [sizeOf, typeInfo, hi, hs, sliced, cutA]
/-- 's[k:m]'. -/
theorem run_cut2 {P : Program} (t : TypeId) (e : TypeId) (ht : P.underlying t = some (.slice (P.elem t))) (he : P.elem t = e) (hsz : (P.info? e).map (·.size) = some 1) (A : Option Addr) (n c : Nat) (kl kh : IntKind) (L M : Int) (k m : Nat) (hL : L = k) (hM : M = m) (hk : k ≤ m) (hm : m ≤ c) (w : World) :
    (Instr.slice t (.slice A n c) (some (.int kl L)) (some (.int kh M)) none).run P w = .ok (.slice (cutA A c k) (m - k) (c - k)) w := by
  subst hL hM he
  obtain ⟨i, hi, hs⟩ := Option.map_eq_some_iff.1 hsz
  rw [run_slice_lh w t A n c ht kl kh k m (by omega) (by omega) (by omega)]
  simp [sizeOf, typeInfo, hi, hs, sliced, cutA]

theorem cpy_full (ys : List Value) (n : Nat) (z : Value) (h : ys.length = n) : ys.take n ++ (List.replicate n z).drop n = ys := by
  rw [List.take_of_length_le (Nat.le_of_eq h), List.drop_eq_nil_of_le (by simp : (List.replicate n z).length ≤ n), List.append_nil]

/-- '[]T{}': a row of one's own without cells. -/
theorem Own.empty (w : World) (e : TypeId) :
    Own w.heap.size e (w.alloc (.cells #[] e)) (w.alloc (.cells #[] e)) (.slice (some ⟨w.heap.size, 0, none⟩) 0 0) (.slice (some ⟨w.heap.size, 0, none⟩) 0 0) 0 [] := Own.made w undef e 0 0 (Nat.le_refl _) (by omega)

/-- A string's iterator that was laid behind w0 is moved on: the row is as it was. -/
theorem own_ne_iter {base : Nat} {e : TypeId} {w : World} {v : Value} {n : Nat} {xs : List Value} {k p : Nat} {s : ByteArray} (h : w.ownsRow base e 1 v n xs) (hk : w.heap[k]? = some (.stringIter s p)) : some k ≠ v.ownBlock := by
  intro he
  rcases h.2 with ⟨rfl, _⟩ | ⟨g, cap, cur, rfl, _, hg, _⟩
  · simp [Value.ownBlock] at he
  · have : k = g := by simpa [Value.ownBlock] using he
    subst this
    rw [hk] at hg
    cases hg
theorem Own.iterAt {base : Nat} {e : TypeId} {w0 w : World} {v0 v : Value} {n : Nat} {xs : List Value} (h : Own base e w0 w v0 v n xs) {k p : Nat} {s : ByteArray} (hk : w.heap[k]? = some (.stringIter s p)) (hk0 : w0.heap.size ≤ k) (q : Nat) : Own base e w0 (w.iterAt k s q) v0 v n xs := by
  have hne := own_ne_iter h.own hk
  refine ⟨⟨h.own.1, ?_⟩, ⟨h.grown.os, h.grown.tape, h.grown.output, by rw [Lib.iterAt_size]; exact h.grown.size, fun i hi hr => by rw [Lib.iterAt_other _ _ _ _ _ (by omega)]; exact h.grown.block i hi hr⟩, h.lies, h.base_le⟩
  rcases h.own.2 with hn | ⟨g, cap, cur, rfl, hb, hg, rest⟩
  · exact .inl hn
  · exact .inr ⟨g, cap, cur, rfl, hb, by rw [Lib.iterAt_other _ _ _ _ _ (fun e => hne (by simp [Value.ownBlock, e]))]; exact hg, rest⟩
theorem Own.kept_iter {base : Nat} {e : TypeId} {w w' : World} {v v' : Value} {n m : Nat} {xs ys : List Value} (h : Own base e w w' v v' m ys) (h0 : w.ownsRow base e 1 v n xs) {k p : Nat} {s : ByteArray} (hk : w.heap[k]? = some (.stringIter s p)) : w'.heap[k]? = some (.stringIter s p) := by
  rw [h.grown.block k (Array.getElem?_eq_some_iff.1 hk).1 (own_ne_iter h0 hk)]; exact hk

/-- A's block is none of those that were there in world w. -/
def Fr (w : World) (A : Option Addr) : Prop := ∀ ad, A = some ad → w.heap.size ≤ ad.block
/-- '.slice A n c' is, in world w', a row that was made since world w (or nil), and reads as xs. -/
def Nw (e : TypeId) (w w' : World) (A : Option Addr) (n c : Nat) (xs : List Value) : Prop := w'.ownsRow w.heap.size e 1 (.slice A n c) n xs
theorem Nw.nil (e : TypeId) (w w' : World) : Nw e w w' none 0 0 [] := World.ownsRow_nil _ _ _ _
theorem Nw.mono {e : TypeId} {w w1 w' : World} {A : Option Addr} {n c : Nat} {xs : List Value} (h : Nw e w1 w' A n c xs) (hs : w.heap.size ≤ w1.heap.size) : Nw e w w' A n c xs := by
  refine ⟨h.1, ?_⟩
  rcases h.2 with hn | ⟨g, cap, cur, hv, hb, rest⟩
  · exact .inl hn
  · exact .inr ⟨g, cap, cur, hv, Nat.le_trans hs hb, rest⟩
theorem Nw.fr {e : TypeId} {w w' : World} {A : Option Addr} {n c : Nat} {xs : List Value} (h : Nw e w w' A n c xs) : Fr w A := by
  intro ad hA
  subst hA
  exact (World.ownsRow.lt h ad.block rfl).1
theorem Nw.sl {e : TypeId} {w w' : World} {A : Option Addr} {n c : Nat} {xs : List Value} (h : Nw e w w' A n c xs) : Sl w' A n c xs := Sl.of_own h
theorem Own.fresh {e : TypeId} {W w0 w' : World} {v0 : Value} {A : Option Addr} {n c : Nat} {xs : List Value} (h : Own W.heap.size e w0 w' v0 (.slice A n c) n xs) : Nw e W w' A n c xs := h.own
/-- Nothing old has turned: in the words of growth, at whatever row. -/
theorem only_of {a w : World} (h : Below a.heap.size a w) (row : Option Nat) : a.grownBy w row := ⟨h.os, h.tape, h.output, h.size, fun i hi _ => h.block i hi⟩
theorem Nw.below {e : TypeId} {w w' w2 : World} {A : Option Addr} {n c : Nat} {xs : List Value} (h : Nw e w w' A n c xs) (hb : Below w'.heap.size w' w2) : Nw e w w2 A n c xs :=
  World.ownsRow.kept h (only_of hb none) (by cases hv : Value.ownBlock (.slice A n c) <;> simp)
/-- A row of one's own over a call that leaves all that was. -/
theorem Own.over {base : Nat} {e : TypeId} {w0 w w' : World} {v0 v : Value} {n : Nat} {xs : List Value} (h : Own base e w0 w v0 v n xs) (hb : Below w.heap.size w w') : Own base e w0 w' v0 v n xs :=
  h.step ⟨h.own.kept (only_of hb none) (by cases hv : v.ownBlock <;> simp), only_of hb _, .inl rfl, h.hbase⟩
/-- A slice that is apart from a row that grew. -/
theorem Sl.grown {w w' : World} {A : Option Addr} {n c : Nat} {xs : List Value} {row : Option Nat} (h : Sl w A n c xs) (hg : w.grownBy w' row) (hne : ∀ ad, A = some ad → some ad.block ≠ row) : Sl w' A n c xs :=
  ⟨h.len, h.cap, h.big, fun hn => by
    obtain ⟨ad, e, hb, hc⟩ := h.cells hn
    exact ⟨ad, e, Nat.lt_of_lt_of_le hb hg.size, fun j u hu => (World.cell?_of_block (hg.block _ (by rw [add_block]; exact hb) (by rw [add_block]; exact hne ad e))).trans (hc j u hu)⟩⟩
/-- A slice in blocks that are new since W, and a row that was there then: the row's growth leaves the slice. -/
theorem Sl.apart {base : Nat} {e : TypeId} {W w w' : World} {v v' : Value} {A : Option Addr} {n c m k : Nat} {xs ys zs : List Value} (h : Sl w A n c xs) (hf : Fr W A) (hv : W.ownsRow base e 1 v k zs) (hg : Own base e w w' v v' m ys) : Sl w' A n c xs :=
  h.grown hg.grown fun ad ha hb => by
    have h1 := hf ad ha
    have h2 := (hv.lt ad.block hb.symm).2
    omega

/-- A slice of integers that came in: nil, or a row of 'cap' cells that hold the numbers zs, each fitting its kind. -/
def IsRow (k : IntKind) (w : World) (a : Option Addr) (len cap : Nat) (zs : List Int) : Prop :=
  (a = none ∧ len = 0 ∧ cap = 0 ∧ zs = []) ∨
  ∃ x, a = some x ∧ len ≤ cap ∧ cap ≤ maxLen ∧ zs.length = cap ∧ (∀ i, i < zs.length → w.cell? (x.add i) = some (.int k (zs.getD i 0))) ∧ ∀ n ∈ zs, (Lit.int k n).wf = true

theorem IsRow.cells {k : IntKind} {w : World} {a : Option Addr} {len cap : Nat} {zs : List Int} (h : IsRow k w a len cap zs) : Sl w a len cap ((zs.take len).map (Value.int k)) ∧ ∀ n ∈ zs.take len, (Lit.int k n).wf = true := by
  rcases h with ⟨rfl, rfl, rfl, rfl⟩ | ⟨x, rfl, hl, hm, hz, hc, hw⟩
  · exact ⟨Sl.nil w, by simp⟩
  · refine ⟨⟨by simp; omega, hl, by simpa [maxLen] using hm, fun hn => ⟨x, rfl, ?_, fun j u hu => ?_⟩⟩, fun n hn => hw n (List.mem_of_mem_take hn)⟩
    · have := World.block_lt_of_cell? w _ (hc 0 (by omega))
      rwa [add_block] at this
    · rw [List.getElem?_map, Option.map_eq_some_iff] at hu
      obtain ⟨z, hz', rfl⟩ := hu
      rw [List.getElem?_take] at hz'
      split at hz'
      · obtain ⟨hj, rfl⟩ := List.getElem?_eq_some_iff.1 hz'
        rw [hc j hj]
        simp [List.getD_eq_getElem?_getD, List.getElem?_eq_getElem hj]
      · cases hz'
theorem wf_u8 {n : Int} (h : (Lit.int .u8 n).wf = true) : 0 ≤ n ∧ n < 256 := by
  have := bounds_u8 h; omega
theorem wf_u64 {n : Int} (h : (Lit.int .u64 n).wf = true) : 0 ≤ n ∧ n < 18446744073709551616 := by
  have := bounds_u64 h; omega
theorem wf_i64 {n : Int} (h : (Lit.int .i64 n).wf = true) : -9223372036854775808 ≤ n ∧ n < 9223372036854775808 := by
  have := bounds_i64 h; omega
theorem IsRow.bytes {w : World} {a : Option Addr} {len cap : Nat} {zs : List Int} (h : IsRow .u8 w a len cap zs) : ∃ l : List UInt8, Sl w a len cap (l.map v8) := by
  obtain ⟨hs, hw⟩ := h.cells
  refine ⟨(zs.take len).map fun z => UInt8.ofNat z.toNat, ?_⟩
  have e : ((zs.take len).map fun z => UInt8.ofNat z.toNat).map v8 = (zs.take len).map (Value.int .u8) := by
    rw [List.map_map]
    refine List.map_congr_left fun z hz => ?_
    have hb := wf_u8 (hw z hz)
    simp only [Function.comp_apply, v8]
    congr 1
    have : (UInt8.ofNat z.toNat).toNat = z.toNat % 256 := by simp
    omega
  rw [e]; exact hs
theorem IsRow.nums {w : World} {a : Option Addr} {len cap : Nat} {zs : List Int} (h : IsRow .u64 w a len cap zs) : ∃ l : List UInt64, Sl w a len cap (l.map v64) := by
  obtain ⟨hs, hw⟩ := h.cells
  refine ⟨(zs.take len).map fun z => UInt64.ofNat z.toNat, ?_⟩
  have e : ((zs.take len).map fun z => UInt64.ofNat z.toNat).map v64 = (zs.take len).map (Value.int .u64) := by
    rw [List.map_map]
    refine List.map_congr_left fun z hz => ?_
    have hb := wf_u64 (hw z hz)
    simp only [Function.comp_apply, v64]
    congr 1
    have : (UInt64.ofNat z.toNat).toNat = z.toNat % 18446744073709551616 := by rw [UInt64.toNat_ofNat']
    omega
  rw [e]; exact hs

/-- An error's number beside what there is, or is not. -/
def errOf {α : Type} (r : Option α) (no : Int) : Int := if r.isSome then 0 else no

end Go.Wag
