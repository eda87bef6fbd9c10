/-
  The contract of the document's Same: two zones.
-/
import Derived.Test.YtnjekhnheihooaaZone4
import Derived.Test.YtnjekhnheihooaaLeAwake
namespace Go.Proofs.Ytnjekhnheihooaa
open Go.RowKit Go.Wag
set_option linter.unusedVariables false

def sameF (st1 rs1 la1 : Int) (l1 : List UInt8) (st2 rs2 la2 : Int) (l2 : List UInt8) : Bool := decide (st1 = st2 ∧ rs1 = rs2 ∧ l1 = l2 ∧ la1 = la2)

set_option maxHeartbeats 400000 in
theorem zSame_any (st1 rs1 la1 : Int) (A1 : Option Addr) (n1 c1 : Nat) (l1 : List UInt8) (st2 rs2 la2 : Int) (A2 : Option Addr) (n2 c2 : Nat) (l2 : List UInt8) (w : World) (h1 : Sl w A1 n1 c1 (l1.map v8)) (h2 : Sl w A2 n2 c2 (l2.map v8)) :
    Calls Try.prog 28 #[.agg #[.int .i64 st1, .int .i64 rs1, .slice A1 n1 c1, .int .i64 la1], .agg #[.int .i64 st2, .int .i64 rs2, .slice A2 n2 c2, .int .i64 la2]] w
      fun e w' => e = .returned (.bool (sameF st1 rs1 la1 l1 st2 rs2 la2 l2)) ∧ Below w.heap.size w w' := by
  by_cases e1 : st1 = st2
  · subst e1
    by_cases e2 : rs1 = rs2
    · subst e2
      have q1 := str_of ((h1.alloc (.cells #[.int .i64 st1, .int .i64 rs1, .slice A1 n1 c1, .int .i64 la1] 46)).alloc (.cells #[.int .i64 st1, .int .i64 rs1, .slice A2 n2 c2, .int .i64 la2] 46))
      have q2 := str_of ((h2.alloc (.cells #[.int .i64 st1, .int .i64 rs1, .slice A1 n1 c1, .int .i64 la1] 46)).alloc (.cells #[.int .i64 st1, .int .i64 rs1, .slice A2 n2 c2, .int .i64 la2] 46))
      go_enter Try.func28, Try.ntmps28
      go_wp2
      all_goals
        go_ret
        go_tidy
        refine ⟨congrArg (fun b => Ending.returned (.bool b)) (?_ : (_ : Bool) = _), ((Below.refl _ _).alloc (Nat.le_refl _) _).alloc (by simp) _⟩
        first
          | (simp_all [sameF]; done)
          | (simp_all [sameF]; rfl)
    · have e2' : (rs1 == rs2) = false := by simp [e2]
      have q1 := str_of ((h1.alloc (.cells #[.int .i64 st1, .int .i64 rs1, .slice A1 n1 c1, .int .i64 la1] 46)).alloc (.cells #[.int .i64 st1, .int .i64 rs2, .slice A2 n2 c2, .int .i64 la2] 46))
      have q2 := str_of ((h2.alloc (.cells #[.int .i64 st1, .int .i64 rs1, .slice A1 n1 c1, .int .i64 la1] 46)).alloc (.cells #[.int .i64 st1, .int .i64 rs2, .slice A2 n2 c2, .int .i64 la2] 46))
      go_enter Try.func28, Try.ntmps28
      go_wp2
      go_ret
      refine ⟨congrArg (fun b => Ending.returned (.bool b)) (?_ : (_ : Bool) = _), ((Below.refl _ _).alloc (Nat.le_refl _) _).alloc (by simp) _⟩
      simp [sameF, e2]
  · have e1' : (st1 == st2) = false := by simp [e1]
    have q1 := str_of ((h1.alloc (.cells #[.int .i64 st1, .int .i64 rs1, .slice A1 n1 c1, .int .i64 la1] 46)).alloc (.cells #[.int .i64 st2, .int .i64 rs2, .slice A2 n2 c2, .int .i64 la2] 46))
    have q2 := str_of ((h2.alloc (.cells #[.int .i64 st1, .int .i64 rs1, .slice A1 n1 c1, .int .i64 la1] 46)).alloc (.cells #[.int .i64 st2, .int .i64 rs2, .slice A2 n2 c2, .int .i64 la2] 46))
    go_enter Try.func28, Try.ntmps28
    go_wp2
    go_ret
    refine ⟨congrArg (fun b => Ending.returned (.bool b)) (?_ : (_ : Bool) = _), ((Below.refl _ _).alloc (Nat.le_refl _) _).alloc (by simp) _⟩
    simp [sameF, e1]

/-- A zone in memory of its own, of m bytes, with an error beside it, or alone. -/
def ZE (w : World) (st rs : Int) (l : List UInt8) (la er : Int) (m : Nat) (e : Ending) (w' : World) : Prop :=
  ∃ A c, e = .returned (.tuple #[.agg #[.int .i64 st, .int .i64 rs, .slice A m c, .int .i64 la], .int .i64 er]) ∧ Nw 5 w w' A m c (l.map v8) ∧ Below w.heap.size w w'
def ZN (w : World) (st rs : Int) (l : List UInt8) (la : Int) (m : Nat) (e : Ending) (w' : World) : Prop :=
  ∃ A c, e = .returned (.agg #[.int .i64 st, .int .i64 rs, .slice A m c, .int .i64 la]) ∧ Nw 5 w w' A m c (l.map v8) ∧ Below w.heap.size w w'
theorem ZoneErr.at_ {w : World} {st rs la er : Int} {l : List UInt8} {m : Nat} (hm : l.length = m) (e : Ending) (w' : World) (h : ZoneErr w st rs l la er e w') : ZE w st rs l la er m e w' := by
  obtain ⟨A, n, c, rfl, hN, hb⟩ := h
  obtain rfl : n = m := by have := hN.sl.len8; omega
  exact ⟨A, c, rfl, hN, hb⟩
theorem ZoneNew.at_ {w : World} {st rs la : Int} {l : List UInt8} {m : Nat} (hm : l.length = m) (e : Ending) (w' : World) (h : ZoneNew w st rs l la e w') : ZN w st rs l la m e w' := by
  obtain ⟨A, n, c, rfl, hN, hb⟩ := h
  obtain rfl : n = m := by have := hN.sl.len8; omega
  exact ⟨A, c, rfl, hN, hb⟩

theorem zAppend_at (st rs la size : Int) (Ab : Option Addr) (nb cb : Nat) (b : List UInt8) (A : Option Addr) (n c : Nat) (l : List UInt8) (st' er' : Int) (l' : List UInt8) (m : Nat) (w : World) (h : Sl w A n c (l.map v8)) (hb : Sl w Ab nb cb (b.map v8)) (hnb : n + nb ≤ 10000000000000)
    (e1 : appSt st rs n la size nb = st') (e2 : appDa st rs n la size nb l b = l') (e3 : appErrF st rs n la size nb = er') (e4 : l'.length = m) :
    Calls Try.prog 48 #[.agg #[.int .i64 st, .int .i64 rs, .slice A n c, .int .i64 la], .int .i64 size, .slice Ab nb cb] w (ZE w st' rs l' la er' m) := by
  subst e1 e2 e3
  exact (zAppend_any st rs la size Ab nb cb b A n c l w h hb (by omega) hnb).mono (ZoneErr.at_ e4)
theorem zReset_at (st rs la : Int) (A : Option Addr) (n c : Nat) (l : List UInt8) (st' rs' la' er' : Int) (l' : List UInt8) (m : Nat) (w : World) (h : Sl w A n c (l.map v8)) (hn : n ≤ 10000000000000)
    (e1 : resSt st rs = st') (e0 : resRs st rs = rs') (e2 : resDa st rs l = l') (e5 : resLa st rs la = la') (e3 : resEr st rs = er') (e4 : l'.length = m) :
    Calls Try.prog 49 #[.agg #[.int .i64 st, .int .i64 rs, .slice A n c, .int .i64 la]] w (ZE w st' rs' l' la' er' m) := by
  subst e1 e2 e3 e0 e5
  exact (zReset_any st rs la A n c l w h hn).mono (ZoneErr.at_ e4)
theorem zFinish_at (st rs la : Int) (A : Option Addr) (n c : Nat) (l : List UInt8) (st' er' : Int) (w : World) (h : Sl w A n c (l.map v8)) (hn : n ≤ 10000000000000) (e1 : finSt st = st') (e3 : finEr st = er') :
    Calls Try.prog 50 #[.agg #[.int .i64 st, .int .i64 rs, .slice A n c, .int .i64 la]] w (ZE w st' rs l la er' n) := by
  subst e1 e3
  exact (zFinish_any st rs la A n c l w h hn).mono (ZoneErr.at_ h.len8)
theorem zClose_at (st rs la : Int) (A : Option Addr) (n c : Nat) (l : List UInt8) (st' er' : Int) (w : World) (h : Sl w A n c (l.map v8)) (hn : n ≤ 10000000000000) (e1 : cloSt st = st') (e3 : cloEr st = er') :
    Calls Try.prog 51 #[.agg #[.int .i64 st, .int .i64 rs, .slice A n c, .int .i64 la]] w (ZE w st' rs l la er' n) := by
  subst e1 e3
  exact (zClose_any st rs la A n c l w h hn).mono (ZoneErr.at_ h.len8)
theorem zFlush_at (st rs la : Int) (A : Option Addr) (n c : Nat) (l : List UInt8) (w : World) (h : Sl w A n c (l.map v8)) (hn : n ≤ 10000000000000) :
    Calls Try.prog 53 #[.agg #[.int .i64 st, .int .i64 rs, .slice A n c, .int .i64 la]] w (ZN w st rs l n n) := by
  have hl := h.len8
  exact (zFlush_any st rs la A n c l w h hn).mono (fun e w' hz => by rw [hl] at hz; exact ZoneNew.at_ hl e w' hz)
theorem zCrash_at (st rs la size keep : Int) (A : Option Addr) (n c : Nat) (l : List UInt8) (st' la' : Int) (l' : List UInt8) (m : Nat) (w : World) (h : Sl w A n c (l.map v8)) (hn : n ≤ 10000000000000) (hk0 : -9223372036854775808 ≤ keep) (hk1 : keep < 9223372036854775808)
    (e1 : crSt st rs n la size keep = st') (e2 : crDa st rs n la size keep l = l') (e3 : crLa st rs n la size keep = la') (e4 : l'.length = m) :
    Calls Try.prog 32 #[.agg #[.int .i64 st, .int .i64 rs, .slice A n c, .int .i64 la], .int .i64 size, .int .i64 keep] w (ZN w st' rs l' la' m) := by
  subst e1 e2 e3
  exact (zCrash_any st rs la size keep A n c l w h hn hk0 hk1).mono (ZoneNew.at_ e4)
theorem zCheck_at (st rs la size : Int) (A : Option Addr) (n c : Nat) (r : Bool) (w : World) (e1 : chkF st rs n la size = r) :
    Calls Try.prog 34 #[.agg #[.int .i64 st, .int .i64 rs, .slice A n c, .int .i64 la], .int .i64 size] w fun e w' => e = .returned (.bool r) ∧ Below w.heap.size w w' := by
  subst e1
  exact zCheck_any st rs la size A n c w
theorem zRoom_at (st rs la size : Int) (A : Option Addr) (n c : Nat) (r : Int) (w : World) (e1 : roomF st rs n la size = r) :
    Calls Try.prog 62 #[.agg #[.int .i64 st, .int .i64 rs, .slice A n c, .int .i64 la], .int .i64 size] w fun e w' => e = .returned (.int .i64 r) ∧ Below w.heap.size w w' := by
  subst e1
  exact zRoom_any st rs la size A n c w
theorem zSame_at (st1 rs1 la1 : Int) (A1 : Option Addr) (n1 c1 : Nat) (l1 : List UInt8) (st2 rs2 la2 : Int) (A2 : Option Addr) (n2 c2 : Nat) (l2 : List UInt8) (r : Bool) (w : World) (h1 : Sl w A1 n1 c1 (l1.map v8)) (h2 : Sl w A2 n2 c2 (l2.map v8)) (e1 : sameF st1 rs1 la1 l1 st2 rs2 la2 l2 = r) :
    Calls Try.prog 28 #[.agg #[.int .i64 st1, .int .i64 rs1, .slice A1 n1 c1, .int .i64 la1], .agg #[.int .i64 st2, .int .i64 rs2, .slice A2 n2 c2, .int .i64 la2]] w
      fun e w' => e = .returned (.bool r) ∧ Below w.heap.size w w' := by
  subst e1
  exact zSame_any st1 rs1 la1 A1 n1 c1 l1 st2 rs2 la2 A2 n2 c2 l2 w h1 h2
end Go.Proofs.Ytnjekhnheihooaa
