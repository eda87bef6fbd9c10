/-
  Contracts of package zone that make zones: the closures, Append, Reset, Finish, Close, Flush, Crash.
-/
import Derived.Test.YtnjekhnheihooaaZone
namespace Go.Proofs.Ytnjekhnheihooaa
open Go.RowKit Go.Wag
set_option linter.unusedVariables false

/-- A zone variable in block k whose bytes are a row of one's own, apart from it. -/
structure ZVar (base B : Nat) (w : World) (k : Nat) (st rs la : Int) (A : Option Addr) (n c : Nat) (l : List UInt8) : Prop where
  blk : Blk w k #[.int .i64 st, .int .i64 rs, .slice A n c, .int .i64 la] 46
  own : w.ownsRow base 5 1 (.slice A n c) n (l.map v8)
  base_le : base ≤ w.heap.size
  apart : ∀ ad, A = some ad → B ≤ ad.block ∧ ad.block < k
  at_ : B ≤ k

/-- Nothing below B has turned, and a zone variable stands in block k. -/
def ZPost (base B : Nat) (w : World) (k : Nat) (st rs : Int) (l : List UInt8) (la : Int) (e : Ending) (w' : World) : Prop :=
  ∃ A n c, e = .returned (.tuple #[]) ∧ Blk w' k #[.int .i64 st, .int .i64 rs, .slice A n c, .int .i64 la] 46 ∧ w'.ownsRow base 5 1 (.slice A n c) n (l.map v8) ∧ Below B w w'

theorem ZVar.kept {base B : Nat} {k : Nat} {st rs la : Int} {A : Option Addr} {n c : Nat} {l : List UInt8} {w : World} (h : ZVar base B w k st rs la A n c l) (i : Nat) (u : Value) :
    (w.setCell ⟨k, i, none⟩ u).ownsRow base 5 1 (.slice A n c) n (l.map v8) :=
  World.ownsRow.kept h.own (grown_set w _ _) (by
    cases hA : A with
    | none => exact .inl rfl
    | some ad => exact .inr (fun hh => Nat.ne_of_lt (h.apart ad hA).2 (Option.some.inj hh)))

theorem zFinish1_any (base B : Nat) (k : Nat) (st rs la : Int) (A : Option Addr) (n c : Nat) (l : List UInt8) (w : World) (h : ZVar base B w k st rs la A n c l) :
    Calls Try.prog 60 #[.pointer (some ⟨k, 0, none⟩)] w (ZPost base B w k 3 rs l la) := by
  obtain ⟨c0, c1, c2, c3, f0, f1, f2, f3⟩ := h.blk.four
  go_enter Try.func60, Try.ntmps60
  go_wp2
  go_end0
  exact ⟨A, n, c, rfl, h.blk.set 0 _, h.kept 0 _, (Below.refl _ _).setCell h.at_ _⟩
theorem zClose1_any (base B : Nat) (k : Nat) (st rs la : Int) (A : Option Addr) (n c : Nat) (l : List UInt8) (w : World) (h : ZVar base B w k st rs la A n c l) :
    Calls Try.prog 61 #[.pointer (some ⟨k, 0, none⟩)] w (ZPost base B w k 2 rs l la) := by
  obtain ⟨c0, c1, c2, c3, f0, f1, f2, f3⟩ := h.blk.four
  go_enter Try.func61, Try.ntmps61
  go_wp2
  go_end0
  exact ⟨A, n, c, rfl, h.blk.set 0 _, h.kept 0 _, (Below.refl _ _).setCell h.at_ _⟩

theorem own_far {base : Nat} {e : TypeId} {w : World} {A : Option Addr} {n c : Nat} {xs : List Value} (h : w.ownsRow base e 1 (.slice A n c) n xs) {a : Addr} (ha : ∀ ad, A = some ad → ad.block ≠ a.block) (u : Value) : (w.setCell a u).ownsRow base e 1 (.slice A n c) n xs := by
  refine World.ownsRow.kept h (grown_set w a u) ?_
  cases A with
  | none => exact .inl rfl
  | some ad => exact .inr (fun hh => ha ad rfl (Option.some.inj hh))

theorem zReset1_any (base B : Nat) (k k1 : Nat) (st rs la st1 rs1 la1 : Int) (A A1 : Option Addr) (n c n1 c1 : Nat) (l : List UInt8) (w : World) (h : ZVar base B w k st rs la A n c l) (hz : Blk w k1 #[.int .i64 st1, .int .i64 rs1, .slice A1 n1 c1, .int .i64 la1] 46)
    (hr : wrap64 (rs1 + 1) = rs1 + 1) :
    Calls Try.prog 59 #[.pointer (some ⟨k1, 0, none⟩), .pointer (some ⟨k, 0, none⟩)] w (ZPost base B w k 0 (rs1 + 1) [] 0) := by
  obtain ⟨c0, c1, c2, c3, f0, f1, f2, f3⟩ := h.blk.four
  obtain ⟨d0, d1, d2, d3, _⟩ := hz.four
  go_enter Try.func59, Try.ntmps59
  go_wp2
  go_end0
  exact ⟨none, 0, 0, rfl, ((((h.blk.set 0 _).set 1 _).set 2 _).set 3 _), World.ownsRow_nil _ _ _ _, ((((Below.refl _ _).setCell h.at_ _).setCell h.at_ _).setCell h.at_ _).setCell h.at_ _⟩

/-- The state behind bytes that were put behind. -/
def fullF (n size : Int) : Int := if n = size then 3 else 1
theorem fullF_cases (n size : Int) : (n == size) = true ∧ fullF n size = 3 ∨ (n == size) = false ∧ fullF n size = 1 := by
  by_cases h : n = size
  · exact .inl ⟨by simp [h], by simp [fullF, h]⟩
  · exact .inr ⟨by simp [h], by simp [fullF, h]⟩

set_option maxHeartbeats 400000 in
theorem zAppend1_any (base B : Nat) (k kb ks tb ts : Nat) (st rs la size : Int) (A Ab : Option Addr) (n c nb cb : Nat) (l b : List UInt8) (w : World) (hz : ZVar base B w k st rs la A n c l)
    (hb : Blk w kb #[.slice Ab nb cb] tb) (hs : Blk w ks #[.int .i64 size] ts) (hks : ks < B) (hsl : Sl w Ab nb cb (b.map v8)) (hn : n + nb ≤ 10000000000000) (hB : B ≤ w.heap.size) :
    Calls Try.prog 56 #[.pointer (some ⟨k, 0, none⟩), .pointer (some ⟨kb, 0, none⟩), .pointer (some ⟨ks, 0, none⟩)] w (ZPost base B w k (fullF ((n : Int) + nb) size) rs (l ++ b) la) := by
  obtain ⟨c0, c1, c2, c3, f0, f1, f2, f3⟩ := hz.blk.four
  obtain ⟨d0, _⟩ := hb.one
  obtain ⟨i0, hi, hz0, hz1, hz2⟩ := info_parts i5
  have HO := Own.start hz.own hz.base_le
  have hk := hz.at_
  rcases fullF_cases ((n : Int) + nb) size with ⟨hq, hf⟩ | ⟨hq, hf⟩
  all_goals
    rw [hf]
    clear hf
    go_enter Try.func56, Try.ntmps56
    go_wp2_with (at_builtin
                 refine wpList_app rfl (.tmp 4) (.tmp 5) 31 rfl rfl HO i0 (.int .u8 0) 1 Try.underlying31 hi hz0 hz1 hz2 rfl _ _ _ _ rfl hsl (oneCell8 _) (by omega) (by omega) ?_
                 intro A2 c2 w2 hw2
                 have B2 := hz.blk.own hw2 (fun b hb => by
                   cases hA : A with
                   | none => rw [hA] at hb; cases hb
                   | some ad => rw [hA] at hb; exact fun e => Nat.ne_of_lt (hz.apart ad hA).2 ((Option.some.inj hb).trans e))
                 obtain ⟨e0, e1, e2, e3, g0, g1, g2, g3⟩ := B2.four
                 have b2 : Below B w w2 := hw2.below (Below.refl _ _) hB (fun b hb => by
                   cases hA : A with
                   | none => rw [hA] at hb; cases hb
                   | some ad => rw [hA] at hb; exact Option.some.inj hb ▸ (hz.apart ad hA).1)
                 obtain ⟨s0, _⟩ := (hs.below b2 hks).one)
    have hA2 : ∀ ad, A2 = some ad → ad.block ≠ k := fun ad hA e => by
      have hkl := hz.blk.lt
      subst hA
      rcases hw2.lies with hl | hl
      · cases hA' : A with
        | none => rw [hA'] at hl; cases hl
        | some a' =>
          rw [hA'] at hl
          have h1 := (hz.apart a' hA').2
          have h2 : ad.block = a'.block := Option.some.inj hl
          omega
      · have := hl ad.block rfl
        omega
    have hO := hw2.own
    rw [← List.map_append] at hO
    go_end0
  · exact ⟨_, _, _, rfl, ((B2.set 2 _).set 0 _).set 0 _, own_far (own_far (own_far hO hA2 _) hA2 _) hA2 _, ((b2.setCell hk _).setCell hk _).setCell hk _⟩
  · exact ⟨_, _, _, rfl, (B2.set 2 _).set 0 _, own_far (own_far hO hA2 _) hA2 _, (b2.setCell hk _).setCell hk _⟩

theorem ZVar.under {base B : Nat} {k : Nat} {st rs la : Int} {A : Option Addr} {n c : Nat} {l : List UInt8} {w w' : World} (h : ZVar base B w k st rs la A n c l) (hb : Below w.heap.size w w') : ZVar base B w' k st rs la A n c l :=
  ⟨h.blk.under hb, World.ownsRow.kept h.own (only_of hb none) (by cases hv : Value.ownBlock (.slice A n c) <;> simp), Nat.le_trans h.base_le hb.size, h.apart, h.at_⟩
/-- A zone variable that is laid behind a copy. -/
theorem ZVar.laid {W w : World} {A : Option Addr} {n c : Nat} {l : List UInt8} (h : Nw 5 W w A n c (l.map v8)) (hs : W.heap.size ≤ w.heap.size) (st' rs' la' : Int) :
    ZVar W.heap.size W.heap.size (w.alloc (.cells #[.int .i64 st', .int .i64 rs', .slice A n c, .int .i64 la'] 46)) w.heap.size st' rs' la' A n c l :=
  ⟨Blk.new _ _ _, World.ownsRow.alloc h _, by simp; omega, fun ad hA => by
    subst hA
    exact World.ownsRow.lt h ad.block rfl, hs⟩

theorem fd0 (a b c : Bool) (w : World) : (Instr.field 76 (.agg #[.bool a, .bool b, .bool c]) 0).run Try.prog w = .ok (.bool a) w := by kernel_rfl
theorem fd1 (a b c : Bool) (w : World) : (Instr.field 76 (.agg #[.bool a, .bool b, .bool c]) 1).run Try.prog w = .ok (.bool b) w := by kernel_rfl
theorem fd2 (a b c : Bool) (w : World) : (Instr.field 76 (.agg #[.bool a, .bool b, .bool c]) 2).run Try.prog w = .ok (.bool c) w := by kernel_rfl

theorem zdoUnless_no (er : Int) (her : (er == 0) = false) (v : Value) (w : World) : Calls Try.prog 54 #[.int .i64 er, v] w fun e w' => e = .returned (.int .i64 er) ∧ w = w' := by
  go_enter Try.func54, Try.ntmps54
  go_wp2
  go_ret
  exact ⟨rfl, rfl⟩

theorem zdoUnless_do (f : FuncId) (cap : Array Value) (w : World) (Q : Ending → World → Prop) (hent : ∀ w, (callFunc f cap).run Try.prog w = .ok (.enter f cap) w) (hQ : ∀ e w', Q e w' → e = .returned (.tuple #[])) (hc : Calls Try.prog f cap w Q) :
    Calls Try.prog 54 #[.int .i64 0, .func (.func f) #[] cap] w fun e w' => e = .returned (.int .i64 0) ∧ Q (.returned (.tuple #[])) w' := by
  go_enter Try.func54, Try.ntmps54
  go_wp2_with fail
  refine hc.mono ?_
  intro e w1 h
  obtain rfl := hQ e w1 h
  go_wp2
  go_ret
  exact ⟨rfl, h⟩

theorem ZPost.end_ {base B : Nat} {w : World} {k : Nat} {st rs : Int} {l : List UInt8} {la : Int} (e : Ending) (w' : World) (h : ZPost base B w k st rs l la e w') : e = .returned (.tuple #[]) := by
  obtain ⟨_, _, _, h, _⟩ := h
  exact h

/-- The store of a zone into the result's block kr, below the rows of one's own. -/
theorem zone_stored {base kr : Nat} {w w6 : World} {st rs la : Int} {a b c d : Value} {A : Option Addr} {n m : Nat} {l : List UInt8} (hB : Blk w6 kr #[a, b, c, d] 46) (hO : w6.ownsRow base 5 1 (.slice A n m) n (l.map v8)) (hk : kr < base) (hw : w.heap.size ≤ kr) (hb : Below w.heap.size w w6) :
    Blk ((((w6.setCell ⟨kr, 0, none⟩ (.int .i64 st)).setCell ⟨kr, 1, none⟩ (.int .i64 rs)).setCell ⟨kr, 2, none⟩ (.slice A n m)).setCell ⟨kr, 3, none⟩ (.int .i64 la)) kr #[.int .i64 st, .int .i64 rs, .slice A n m, .int .i64 la] 46 ∧
    Nw 5 w ((((w6.setCell ⟨kr, 0, none⟩ (.int .i64 st)).setCell ⟨kr, 1, none⟩ (.int .i64 rs)).setCell ⟨kr, 2, none⟩ (.slice A n m)).setCell ⟨kr, 3, none⟩ (.int .i64 la)) A n m (l.map v8) ∧
    Below w.heap.size w ((((w6.setCell ⟨kr, 0, none⟩ (.int .i64 st)).setCell ⟨kr, 1, none⟩ (.int .i64 rs)).setCell ⟨kr, 2, none⟩ (.slice A n m)).setCell ⟨kr, 3, none⟩ (.int .i64 la)) := by
  have hA : ∀ ad, A = some ad → ad.block ≠ kr := fun ad hA e => by
    subst hA
    have := (World.ownsRow.lt hO ad.block rfl).1
    omega
  refine ⟨((((hB.set 0 _).set 1 _).set 2 _).set 3 _), ?_, (((hb.setCell hw _).setCell hw _).setCell hw _).setCell hw _⟩
  have h4 := own_far (own_far (own_far (own_far hO (a := ⟨kr, 0, none⟩) hA (.int .i64 st)) (a := ⟨kr, 1, none⟩) hA (.int .i64 rs)) (a := ⟨kr, 2, none⟩) hA (.slice A n m)) (a := ⟨kr, 3, none⟩) hA (.int .i64 la)
  refine ⟨h4.1, ?_⟩
  rcases h4.2 with hn | ⟨g, cap, cur, hv, hg, rest⟩
  · exact .inl hn
  · exact .inr ⟨g, cap, cur, hv, by omega, rest⟩
theorem ret_zone2 {fn : Func} {tmps : Array Value} {p u : Tmp} {base kr : Nat} {w w6 : World} {st rs la er : Int} {a b c d : Value} {A : Option Addr} {n m : Nat} {l : List UInt8} (hr : fn.results = #[.cell p 46, .tmp u]) (hp : tmps.getD p undef = .pointer (some ⟨kr, 0, none⟩))
    (hv : tmps.getD u undef = .int .i64 er) (hB : Blk w6 kr #[a, b, c, d] 46) (hO : w6.ownsRow base 5 1 (.slice A n m) n (l.map v8)) (hk : kr < base) (hw : w.heap.size ≤ kr) (hb : Below w.heap.size w w6) :
    bodyPost Try.prog fn (ZoneErr w st rs l la er) .ret ⟨tmps, []⟩ ((((w6.setCell ⟨kr, 0, none⟩ (.int .i64 st)).setCell ⟨kr, 1, none⟩ (.int .i64 rs)).setCell ⟨kr, 2, none⟩ (.slice A n m)).setCell ⟨kr, 3, none⟩ (.int .i64 la)) := by
  obtain ⟨h1, h2, h3⟩ := zone_stored (st := st) (rs := rs) (la := la) hB hO hk hw hb
  exact ret_blk2 hr hp h1 Try.underlying46 (by kernel_rfl) hv (ZoneErr.mk h2 h3)
theorem ret_zone {fn : Func} {tmps : Array Value} {p : Tmp} {base kr : Nat} {w w6 : World} {st rs la : Int} {a b c d : Value} {A : Option Addr} {n m : Nat} {l : List UInt8} (hr : fn.results = #[.cell p 46]) (hp : tmps.getD p undef = .pointer (some ⟨kr, 0, none⟩))
    (hB : Blk w6 kr #[a, b, c, d] 46) (hO : w6.ownsRow base 5 1 (.slice A n m) n (l.map v8)) (hk : kr < base) (hw : w.heap.size ≤ kr) (hb : Below w.heap.size w w6) :
    bodyPost Try.prog fn (ZoneNew w st rs l la) .ret ⟨tmps, []⟩ ((((w6.setCell ⟨kr, 0, none⟩ (.int .i64 st)).setCell ⟨kr, 1, none⟩ (.int .i64 rs)).setCell ⟨kr, 2, none⟩ (.slice A n m)).setCell ⟨kr, 3, none⟩ (.int .i64 la)) := by
  obtain ⟨h1, h2, h3⟩ := zone_stored (st := st) (rs := rs) (la := la) hB hO hk hw hb
  exact ret_blk hr hp h1 Try.underlying46 (by kernel_rfl) (ZoneNew.mk h2 h3)

/-- Finish and Close: the state behind them, and the error. -/
def finSt (st : Int) : Int := if st = 1 ∨ st = 2 then 3 else st
def finEr (st : Int) : Int := if st = 1 ∨ st = 2 then 0 else 30
def cloSt (st : Int) : Int := if st = 1 then 2 else st
def cloEr (st : Int) : Int := if st = 1 then 0 else 30

theorem zFinish_any (st rs la : Int) (A : Option Addr) (n c : Nat) (l : List UInt8) (w : World) (h : Sl w A n c (l.map v8)) (hn : n ≤ 10000000000000) :
    Calls Try.prog 50 #[.agg #[.int .i64 st, .int .i64 rs, .slice A n c, .int .i64 la]] w (ZoneErr w (finSt st) rs l la (finEr st)) := by
  have b1 := ((Below.refl w.heap.size w).alloc (Nat.le_refl _) (.cells #[.int .i64 st, .int .i64 rs, .slice A n c, .int .i64 la] 46)).alloc (by simp) (.cells #[.int .i64 0, .int .i64 0, .slice none 0 0, .int .i64 0] 46)
  have B1 := (Blk.new w #[.int .i64 st, .int .i64 rs, .slice A n c, .int .i64 la] 46).alloc (.cells #[.int .i64 0, .int .i64 0, .slice none 0 0, .int .i64 0] 46)
  have B2 := (Blk.new (w.alloc (.cells #[.int .i64 st, .int .i64 rs, .slice A n c, .int .i64 la] 46)) #[.int .i64 0, .int .i64 0, .slice none 0 0, .int .i64 0] 46)
  have H1 := h.below b1
  go_enter Try.func50, Try.ntmps50
  go_wp2_with fail
  generalize hW1 : (w.alloc (.cells #[.int .i64 st, .int .i64 rs, .slice A n c, .int .i64 la] 46)).alloc (.cells #[.int .i64 0, .int .i64 0, .slice none 0 0, .int .i64 0] 46) = W1 at *
  refine (zcopied_any st rs la A n c l W1 H1 hn).mono ?_
  rintro e w2 ⟨A2, n2, c2, rfl, N2, b2⟩
  have hs1 : W1.heap.size = w.heap.size + 2 := by rw [← hW1]; simp
  have hs2 := b2.size
  rw [World.size_alloc] at B2
  obtain ⟨c0, c1, c2', c3, _⟩ := (B1.under b2).four
  have B3 := ((B2.under b2).alloc (.cells #[.int .i64 st, .int .i64 rs, .slice A2 n2 c2, .int .i64 la] 46))
  have Z3 := ZVar.laid N2 hs2 st rs la
  have b3 : Below w.heap.size w (w2.alloc (.cells #[.int .i64 st, .int .i64 rs, .slice A2 n2 c2, .int .i64 la] 46)) := (b1.trans (b2.mono (by omega))).alloc (by omega) _
  have hlt : w.heap.size < w2.heap.size := by omega
  have hlt2 : w.heap.size ≠ w2.heap.size := by omega
  go_wp2_with fail
  generalize hW3 : w2.alloc (.cells #[.int .i64 st, .int .i64 rs, .slice A2 n2 c2, .int .i64 la] 46) = W3 at *
  refine (ztaken_any st W3).mono ?_
  rintro e w4 ⟨rfl, b4⟩
  rw [takenF]
  have hfd := fd1
  go_wp2_with fail
  clear hfd
  refine (zerrorUnless_any _ w4).mono ?_
  rintro e w5 ⟨rfl, rfl⟩
  have Z4 := Z3.under b4
  have b5 := b3.trans (b4.mono b3.size)
  have B4 := B3.under b4
  go_wp2_with fail
  by_cases hst : st = 1 ∨ st = 2
  · have e1 : unlessF (decide (st = 1) || decide (st = 2)) = 0 := by rcases hst with rfl | rfl <;> rfl
    simp only [e1]
    clear e1
    refine (zdoUnless_do _ _ w4 _ (fun _ => by kernel_rfl) ZPost.end_ (zFinish1_any _ _ _ st rs la A2 n2 c2 l w4 Z4)).mono ?_
    rintro e w6 ⟨rfl, A6, n6, c6, _, B6, O6, b6⟩
    obtain ⟨d0, d1, d2, d3, _⟩ := B6.four
    have B7 := B4.below b6 (by omega)
    obtain ⟨g0, g1, g2, g3, f0, f1, f2, f3⟩ := B7.four
    have b7 := b5.trans (b6.mono (by omega))
    go_wp2
    try simp only [Exit.inBlock, Exit.then]
    rw [show finSt st = 3 by simp [finSt, hst], show finEr st = 0 by simp [finEr, hst]]
    exact ret_zone2 rfl rfl rfl B7 O6 (by omega) (by omega) b7
  · have e1 : unlessF (decide (st = 1) || decide (st = 2)) = 30 := by simp [unlessF, hst]
    simp only [e1]
    clear e1
    refine (zdoUnless_no 30 rfl _ w4).mono ?_
    rintro e w6 ⟨rfl, rfl⟩
    obtain ⟨d0, d1, d2, d3, _⟩ := Z4.blk.four
    obtain ⟨g0, g1, g2, g3, f0, f1, f2, f3⟩ := B4.four
    go_wp2
    try simp only [Exit.inBlock, Exit.then]
    rw [show finSt st = st by simp [finSt, hst], show finEr st = 30 by simp [finEr, hst]]
    exact ret_zone2 rfl rfl rfl B4 Z4.own (by omega) (by omega) b5
end Go.Proofs.Ytnjekhnheihooaa
