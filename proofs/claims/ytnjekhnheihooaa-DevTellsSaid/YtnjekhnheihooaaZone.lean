/-
  Contracts of package zone.
-/
import Derived.Test.YtnjekhnheihooaaLeSmall
import Derived.Test.YtnjekhnheihooaaBlk
namespace Go.Proofs.Ytnjekhnheihooaa
open Go.RowKit Go.Wag
set_option linter.unusedVariables false

/-- Whether a zone may be: state, resets, how many bytes, how many last, the size. -/
def chkF (st rs n la size : Int) : Bool :=
  decide (1 ≤ size ∧ size ≤ 1048576 ∧ 0 ≤ rs ∧ rs ≤ 1073741824 ∧ 0 ≤ st ∧ st ≤ 3 ∧ n ≤ size ∧ 0 ≤ la ∧ la ≤ n ∧ (st = 0 → n = 0) ∧ (st = 1 ∨ st = 2 → 0 < n ∧ n < size))

set_option maxHeartbeats 1000000 in
theorem zCheck_any (st rs la size : Int) (A : Option Addr) (n c : Nat) (w : World) :
    Calls Try.prog 34 #[.agg #[.int .i64 st, .int .i64 rs, .slice A n c, .int .i64 la], .int .i64 size] w fun e w' => e = .returned (.bool (chkF st rs n la size)) ∧ Below w.heap.size w w' := by
  go_enter Try.func34, Try.ntmps34
  go_wp2
  all_goals
    go_ret
    go_tidy
    refine ⟨congrArg (fun b => Ending.returned (.bool b)) (?_ : (_ : Bool) = _), (Below.refl _ _).alloc (Nat.le_refl _) _⟩
    try simp only [beq_iff_eq, beq_eq_false_iff_ne] at *
    rw [Bool.eq_iff_iff]
    simp only [chkF, decide_eq_true_eq, beq_iff_eq, Bool.false_eq_true, false_iff]
    omega

theorem chk_all {st rs n la size : Int} (h : chkF st rs n la size = true) : 1 ≤ size ∧ size ≤ 1048576 ∧ 0 ≤ rs ∧ rs ≤ 1073741824 ∧ 0 ≤ st ∧ st ≤ 3 ∧ n ≤ size ∧ 0 ≤ la ∧ la ≤ n ∧ (st = 0 → n = 0) ∧ (st = 1 ∨ st = 2 → 0 < n ∧ n < size) := by
  simpa only [chkF, decide_eq_true_eq] using h

/-- How many bytes a zone takes. -/
def roomF (st rs n la size : Int) : Int := if chkF st rs n la size = true ∧ st ≠ 3 then size - n else 0

theorem zRoom_any (st rs la size : Int) (A : Option Addr) (n c : Nat) (w : World) :
    Calls Try.prog 62 #[.agg #[.int .i64 st, .int .i64 rs, .slice A n c, .int .i64 la], .int .i64 size] w fun e w' => e = .returned (.int .i64 (roomF st rs n la size)) ∧ Below w.heap.size w w' := by
  have hb : chkF st rs n la size = false ∨ wrap64 (size - n) = size - n := by
    cases h : chkF st rs n la size
    · exact .inl rfl
    · have := chk_all h
      refine .inr ?_
      unfold wrap64
      omega
  go_enter Try.func62, Try.ntmps62
  go_wp2_with fail
  have B0 := Blk.new w #[.int .i64 st, .int .i64 rs, .slice A n c, .int .i64 la] 46
  have b0 := (Below.refl w.heap.size w).alloc (Nat.le_refl _) (.cells #[.int .i64 st, .int .i64 rs, .slice A n c, .int .i64 la] 46)
  refine (zCheck_any st rs la size A n c _).mono ?_
  rintro e w1 ⟨rfl, b1⟩
  obtain ⟨c0, c1, c2, c3, _⟩ := (B0.under b1).four
  have b2 := b0.trans (b1.mono (by simp))
  go_wp2
  all_goals
    go_ret
    go_tidy
    refine ⟨congrArg (fun b => Ending.returned (.int .i64 b)) (?_ : (_ : Int) = _), b2⟩
    simp_all [roomF]

/-- The error of a zone that does not take a command. -/
def unlessF (b : Bool) : Int := if b = true then 0 else 30

theorem zerrorUnless_any (b : Bool) (w : World) : Calls Try.prog 58 #[.bool b] w fun e w' => e = .returned (.int .i64 (unlessF b)) ∧ w = w' := by
  cases b
  all_goals
    go_enter Try.func58, Try.ntmps58
    go_wp2
    go_ret
    exact ⟨rfl, rfl⟩

/-- What stands against m bytes more. -/
def appErrF (st rs n la size m : Int) : Int := if chkF st rs n la size = true ∧ m ≠ 0 then (if m ≤ roomF st rs n la size then 0 else 30) else 1

theorem zappendError_any (st rs la size m : Int) (A : Option Addr) (n c : Nat) (w : World) :
    Calls Try.prog 55 #[.agg #[.int .i64 st, .int .i64 rs, .slice A n c, .int .i64 la], .int .i64 size, .int .i64 m] w fun e w' => e = .returned (.int .i64 (appErrF st rs n la size m)) ∧ Below w.heap.size w w' := by
  have B0 := Blk.new w #[.int .i64 st, .int .i64 rs, .slice A n c, .int .i64 la] 46
  have b0 := (Below.refl w.heap.size w).alloc (Nat.le_refl _) (.cells #[.int .i64 st, .int .i64 rs, .slice A n c, .int .i64 la] 46)
  by_cases hk : chkF st rs n la size = true
  · by_cases hm : m = 0
    · go_enter Try.func55, Try.ntmps55
      go_wp2_with fail
      refine (zCheck_any st rs la size A n c _).mono ?_
      rintro e w1 ⟨rfl, b1⟩
      have b2 := b0.trans (b1.mono (by simp))
      go_wp2
      go_ret
      exact ⟨by rw [appErrF, if_neg (by simp [hm])]; rfl, b2⟩
    · go_enter Try.func55, Try.ntmps55
      go_wp2_with fail
      refine (zCheck_any st rs la size A n c _).mono ?_
      rintro e w1 ⟨rfl, b1⟩
      obtain ⟨c0, c1, c2, c3, _⟩ := (B0.under b1).four
      have b2 := b0.trans (b1.mono (by simp))
      go_wp2_with fail
      refine (zRoom_any st rs la size A n c w1).mono ?_
      rintro e w2 ⟨rfl, b3⟩
      have b4 := b2.trans (b3.mono b2.size)
      go_wp2_with fail
      refine (zerrorUnless_any _ w2).mono ?_
      rintro e w3 ⟨rfl, rfl⟩
      go_wp2
      go_ret
      exact ⟨by rw [appErrF, if_pos ⟨hk, hm⟩]; simp [unlessF], b4⟩
  · go_enter Try.func55, Try.ntmps55
    go_wp2_with fail
    refine (zCheck_any st rs la size A n c _).mono ?_
    rintro e w1 ⟨rfl, b1⟩
    have b2 := b0.trans (b1.mono (by simp))
    go_wp2
    go_ret
    exact ⟨by rw [appErrF, if_neg (fun h => hk h.1)]; rfl, b2⟩

/-- The commands that a state takes. -/
def takenF (st : Int) : Value := .agg #[.bool (decide (0 ≤ st ∧ st ≤ 3)), .bool (decide (st = 1 ∨ st = 2)), .bool (decide (st = 1))]

theorem ztaken_any (st : Int) (w : World) : Calls Try.prog 57 #[.int .i64 st] w fun e w' => e = .returned (takenF st) ∧ Below w.heap.size w w' := by
  go_enter Try.func57, Try.ntmps57
  go_wp2
  all_goals
    go_tidy
    try simp only [Exit.inBlock, Exit.then]
    refine ret_blk (g := w.heap.size) rfl rfl ((Blk.new _ _ _).alloc _) Try.underlying76 (by kernel_rfl) ⟨?_, (((Below.refl _ _).alloc (Nat.le_refl _) _).alloc (by simp) _)⟩
    simp_all [takenF]
    try omega

/-- The answer is a zone in memory of its own; nothing old has turned. -/
def ZoneNew (w : World) (st rs : Int) (l : List UInt8) (la : Int) (e : Ending) (w' : World) : Prop :=
  ∃ A n c, e = .returned (.agg #[.int .i64 st, .int .i64 rs, .slice A n c, .int .i64 la]) ∧ Nw 5 w w' A n c (l.map v8) ∧ Below w.heap.size w w'
theorem ZoneNew.mk {w w' : World} {st rs la : Int} {l : List UInt8} {A : Option Addr} {n c : Nat} (hN : Nw 5 w w' A n c (l.map v8)) (hB : Below w.heap.size w w') :
    ZoneNew w st rs l la (.returned (.agg #[.int .i64 st, .int .i64 rs, .slice A n c, .int .i64 la])) w' := ⟨A, n, c, rfl, hN, hB⟩
/-- The same, with an error beside it. -/
def ZoneErr (w : World) (st rs : Int) (l : List UInt8) (la er : Int) (e : Ending) (w' : World) : Prop :=
  ∃ A n c, e = .returned (.tuple #[.agg #[.int .i64 st, .int .i64 rs, .slice A n c, .int .i64 la], .int .i64 er]) ∧ Nw 5 w w' A n c (l.map v8) ∧ Below w.heap.size w w'
theorem ZoneErr.mk {w w' : World} {st rs la er : Int} {l : List UInt8} {A : Option Addr} {n c : Nat} (hN : Nw 5 w w' A n c (l.map v8)) (hB : Below w.heap.size w w') :
    ZoneErr w st rs l la er (.returned (.tuple #[.agg #[.int .i64 st, .int .i64 rs, .slice A n c, .int .i64 la], .int .i64 er])) w' := ⟨A, n, c, rfl, hN, hB⟩
theorem apart_at {g k : Nat} (h : k ≠ g) : ∀ ad, some (⟨g, 0, none⟩ : Addr) = some ad → ad.block ≠ k := by
  intro ad hA
  cases hA
  exact fun e => h e.symm

/-- The two blocks that 'copied' lays. -/
theorem zcopied_any (st rs la : Int) (A : Option Addr) (n c : Nat) (l : List UInt8) (w : World) (h : Sl w A n c (l.map v8)) (hn : n ≤ 10000000000000) :
    Calls Try.prog 39 #[.agg #[.int .i64 st, .int .i64 rs, .slice A n c, .int .i64 la]] w (ZoneNew w st rs l la) := by
  have hlen := h.len
  have hcap := h.cap
  have hbig := h.big
  obtain ⟨i0, hi, hz0, hz1, hz2⟩ := info_parts i5
  have hmk := fun W => run_mk (P := Try.prog) 31 5 i0 (.int .u8 0) 1 Try.underlying31 hi hz0 hz1 hz2 rfl .i64 .i64 (n : Int) (n : Int) n n rfl rfl (by omega) (by omega) (by omega) W
  go_enter Try.func39, Try.ntmps39
  have B1 := ((Blk.new w #[.int .i64 st, .int .i64 rs, .slice A n c, .int .i64 la] 46).alloc (.cells #[.int .i64 0, .int .i64 0, .slice none 0 0, .int .i64 0] 46)).alloc (.cells (mk0 (.int .u8 0) n) 5)
  have B2 := (Blk.new (w.alloc (.cells #[.int .i64 st, .int .i64 rs, .slice A n c, .int .i64 la] 46)) #[.int .i64 0, .int .i64 0, .slice none 0 0, .int .i64 0] 46).alloc (.cells (mk0 (.int .u8 0) n) 5)
  have HO := Own.made ((w.alloc (.cells #[.int .i64 st, .int .i64 rs, .slice A n c, .int .i64 la] 46)).alloc (.cells #[.int .i64 0, .int .i64 0, .slice none 0 0, .int .i64 0] 46)) (.int .u8 0) 5 n n (by omega) (by omega)
  have b1 := ((Below.refl w.heap.size w).alloc (Nat.le_refl _) (.cells #[.int .i64 st, .int .i64 rs, .slice A n c, .int .i64 la] 46)).alloc (by simp) (.cells #[.int .i64 0, .int .i64 0, .slice none 0 0, .int .i64 0] 46)
  have HC := ((h.alloc (.cells #[.int .i64 st, .int .i64 rs, .slice A n c, .int .i64 la] 46)).alloc (.cells #[.int .i64 0, .int .i64 0, .slice none 0 0, .int .i64 0] 46)).alloc (.cells (mk0 (.int .u8 0) n) 5)
  simp only [World.size_alloc] at HO B2 B1
  go_wp2_with (with_reducible refine wpList_cpy rfl (.tmp 8) (.tmp 10) 31 31 rfl rfl HO Try.underlying31 sz5 _ _ _ _ rfl HC (oneCell8 l) ?_
               intro w4 hw4
               rw [cpy_full _ _ _ hlen] at hw4
               have B3 := B1.ownAt hw4 (by omega)
               have B4 := B2.ownAt hw4 (by omega)
               obtain ⟨c0, c1, c2, c3, f0, f1, f2, f3⟩ := B3.four
               obtain ⟨d0, d1, d2, d3, g0, g1, g2, g3⟩ := B4.four)
  try simp only [Exit.inBlock, Exit.then]
  have hN0 : Nw 5 w w4 (some ⟨w.heap.size + 1 + 1, 0, none⟩) n n (l.map v8) := Nw.mono (w1 := (w.alloc (.cells #[] 0)).alloc (.cells #[] 0)) (by simpa [Nw] using hw4.own) (by simp; omega)
  have b4 : Below w.heap.size w w4 := hw4.belowAt (b1.alloc (by simp; omega) _) (by simp; omega) (by omega)
  exact ret_blk (g := w.heap.size + 1) rfl rfl (((((B4.far (by simp) _).set 0 _).set 1 _).set 2 _).set 3 _) Try.underlying46 (by kernel_rfl)
    (ZoneNew.mk (((((hN0.far (apart_at (by simp <;> omega)) _).far (apart_at (by simp <;> omega)) _).far (apart_at (by simp <;> omega)) _).far (apart_at (by simp <;> omega)) _).far (apart_at (by simp <;> omega)) _)
      (((((b4.setCell (Nat.le_refl _) _).setCell (by simp) _).setCell (by simp) _).setCell (by simp) _).setCell (by simp) _))
end Go.Proofs.Ytnjekhnheihooaa
