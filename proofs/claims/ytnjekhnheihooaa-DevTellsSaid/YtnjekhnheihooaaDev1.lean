/-
  Contracts of package dev: mayHave, copiedBytes, Check, Open; the law's Small.
-/
import Derived.Test.YtnjekhnheihooaaZone4
import Derived.Test.YtnjekhnheihooaaLeAwake
import Derived.Test.YtnjekhnheihooaaDevWords
import Derived.Deep.LoopGhost
namespace Go.Proofs.Ytnjekhnheihooaa
open Go.RowKit Go.Wag
set_option linter.unusedVariables false

def mayF (n size : Int) : Bool := decide (1 ≤ n ∧ n ≤ 64 ∧ 1 ≤ size ∧ size ≤ 1048576)

theorem dmayHave_any (n size : Int) (w : World) : Calls Try.prog 25 #[.int .i64 n, .int .i64 size] w fun e w' => e = .returned (.bool (mayF n size)) ∧ w = w' := by
  go_enter Try.func25, Try.ntmps25
  go_wp2
  all_goals
    go_ret
    go_tidy
    refine ⟨congrArg (fun b => Ending.returned (.bool b)) (?_ : (_ : Bool) = _), rfl⟩
    rw [Bool.eq_iff_iff]
    simp only [mayF, decide_eq_true_eq, Bool.false_eq_true, false_iff]
    omega

theorem dcopiedBytes_any (A : Option Addr) (n c : Nat) (l : List UInt8) (w : World) (h : Sl w A n c (l.map v8)) (hn : n ≤ 10000000000000) :
    Calls Try.prog 26 #[.slice A n c] w fun e w' => ∃ A' c', e = .returned (.slice A' n c') ∧ Nw 5 w w' A' n c' (l.map v8) ∧ Below w.heap.size w w' := by
  have hlen := h.len
  have hcap := h.cap
  have hbig := h.big
  obtain ⟨i0, hi, hz0, hz1, hz2⟩ := info_parts i5
  have hmk := fun W => run_mk (P := Try.prog) 31 5 i0 (.int .u8 0) 1 Try.underlying31 hi hz0 hz1 hz2 rfl .i64 .i64 (n : Int) (n : Int) n n rfl rfl (by omega) (by omega) (by omega) W
  go_enter Try.func26, Try.ntmps26
  have HO := Own.made w (.int .u8 0) 5 n n (by omega) (by omega)
  have hs := h.alloc (.cells (mk0 (.int .u8 0) n) 5)
  go_wp2_with (with_reducible refine wpList_cpy rfl (.tmp 7) (.tmp 8) 31 31 rfl rfl HO Try.underlying31 sz5 _ _ _ _ rfl hs (oneCell8 l) ?_
               intro w2 hw2)
  go_ret
  have e1 : (l.map v8).take n ++ (List.replicate n (Value.int .u8 0)).drop n = l.map v8 := cpy_full _ n _ (by simpa using hlen)
  rw [e1] at hw2
  exact ⟨_, _, rfl, hw2.own, hw2.below_made⟩

/-- Whether a device may be. -/
def zchk (size : Int) (z : Zp) : Bool := chkF z.st z.rs z.l.length z.la size
def devF (size : Int) (zs : List Zp) : Bool := mayF zs.length size && zs.all (zchk size)

set_option maxHeartbeats 1000000 in
theorem dCheck_any {F : Nat → Prop} (size lf dn : Int) (dw : Bool) (A : Option Addr) (n c : Nat) (zs : List Zp) (w : World) (h : Zs F w A n c zs) :
    Calls Try.prog 21 #[.agg #[.int .i64 size, .slice A n c, .int .i64 lf, .bool dw, .int .i64 dn]] w fun e w' => e = .returned (.bool (devF size zs)) ∧ Below w.heap.size w w' := by
  have hlen := h.len
  subst hlen
  have hbig := h.big
  have hcap := h.cap
  go_enter Try.func21, Try.ntmps21
  go_wp2_with fail
  have B0 := Blk.new w #[.int .i64 size, .slice A zs.length c, .int .i64 lf, .bool dw, .int .i64 dn] 25
  have b0 := (Below.refl w.heap.size w).alloc (Nat.le_refl _) (.cells #[.int .i64 size, .slice A zs.length c, .int .i64 lf, .bool dw, .int .i64 dn] 25)
  generalize w.alloc (.cells #[.int .i64 size, .slice A zs.length c, .int .i64 lf, .bool dw, .int .i64 dn] 25) = w0 at *
  refine (dmayHave_any _ _ _).mono ?_
  rintro e w1 ⟨rfl, rfl⟩
  cases hm : mayF zs.length size with
  | false =>
    go_wp2
    go_ret
    exact ⟨by simp [devF, hm], b0⟩
  | true =>
    obtain ⟨p0, p1, p2, p3, p4, _⟩ := B0.five
    go_wp2_with fail
    clear p0 p1 p2 p3 p4
    go_loopg [15] zs.length (fun g i wr => ∃ k : Nat, k + g = zs.length ∧ i = .int .i64 (k : Int) ∧ Aside ((zs.take k).all (zchk size) = true) ∧ Below w0.heap.size w0 wr)
    case atStart => exact ⟨0, by omega, rfl, rfl, Below.refl _ _⟩
    case round =>
      obtain ⟨k, hk, rfl, hall, bb⟩ := hrel
      have B1 := B0.under bb
      obtain ⟨p0, p1, p2, p3, p4, _⟩ := B1.five
      by_cases hlt : (k : Int) < (zs.length : Int)
      · obtain ⟨g, rfl⟩ : ∃ g, gk = g + 1 := ⟨gk - 1, by omega⟩
        obtain ⟨gb, o, z, Ai, ci, rfl, hF, hg, hz, c0', c1', c2', c3', hS, hA⟩ := h.at_ (show k < zs.length by omega)
        have hbw := b0.trans (bb.mono b0.size)
        have c0 := (hbw.cell hg).trans c0'
        have c1 := (hbw.cell hg).trans c1'
        have c2 := (hbw.cell hg).trans c2'
        have c3 := (hbw.cell hg).trans c3'
        have hbl := B1.lt
        go_wp2_with fail
        have bv := hbw.alloc hbw.size (.cells #[.int .i64 z.st, .int .i64 z.rs, .slice Ai z.l.length ci, .int .i64 z.la] 46)
        have bb' := bb.alloc bb.size (.cells #[.int .i64 z.st, .int .i64 z.rs, .slice Ai z.l.length ci, .int .i64 z.la] 46)
        generalize wr.alloc (.cells #[.int .i64 z.st, .int .i64 z.rs, .slice Ai z.l.length ci, .int .i64 z.la] 46) = wv at *
        refine (zCheck_any z.st z.rs z.la size Ai z.l.length ci wv).mono ?_
        rintro e w2 ⟨rfl, b2⟩
        cases hc : chkF z.st z.rs z.l.length z.la size with
        | false =>
          go_wp2
          go_ret
          refine ⟨?_, bv.trans (b2.mono bv.size)⟩
          have : zs.all (zchk size) = false := by
            rw [List.all_eq_false]
            exact ⟨z, List.mem_of_getElem? hz, by simp [zchk, hc]⟩
          simp [devF, hm, this]
        | true =>
          go_wp2
          go_roundg g
          case measure => omega
          case rel =>
            refine ⟨k + 1, by omega, by first | rfl | (simp; done) | (simp; exact wrap64_small (by omega) (by omega)), ?_, bb'.trans (b2.mono bb'.size)⟩
            show _ = true
            have hk1 : zs.take (k + 1) = zs.take k ++ [z] := by
              rw [List.take_add_one, hz]; rfl
            rw [hk1, List.all_append, hall.out]
            simp [zchk, hc]
      · have hkk : k = zs.length := by omega
        go_wp2
        go_ret
        refine ⟨?_, b0.trans (bb.mono b0.size)⟩
        have hall := hall.out
        rw [hkk, List.take_length] at hall
        simp [devF, hm, hall]

/-- How many zones are open. -/
def openF (zs : List Zp) : Nat := zs.countP (fun z => z.st == 1)

set_option maxHeartbeats 1000000 in
theorem dOpen_any {F : Nat → Prop} (size lf dn : Int) (dw : Bool) (A : Option Addr) (n c : Nat) (zs : List Zp) (w : World) (h : Zs F w A n c zs) :
    Calls Try.prog 22 #[.agg #[.int .i64 size, .slice A n c, .int .i64 lf, .bool dw, .int .i64 dn]] w fun e w' => e = .returned (.int .i64 (openF zs : Int)) ∧ Below w.heap.size w w' := by
  have hlen := h.len
  subst hlen
  have hbig := h.big
  have hcap := h.cap
  go_enter Try.func22, Try.ntmps22
  go_wp2_with fail
  have B0 := Blk.new w #[.int .i64 size, .slice A zs.length c, .int .i64 lf, .bool dw, .int .i64 dn] 25
  have b0 := (Below.refl w.heap.size w).alloc (Nat.le_refl _) (.cells #[.int .i64 size, .slice A zs.length c, .int .i64 lf, .bool dw, .int .i64 dn] 25)
  generalize w.alloc (.cells #[.int .i64 size, .slice A zs.length c, .int .i64 lf, .bool dw, .int .i64 dn] 25) = w0 at *
  go_loopg [3, 9] zs.length (fun g s i wr => ∃ k m : Nat, k + g = zs.length ∧ m ≤ k ∧ s = .int .i64 (m : Int) ∧ i = .int .i64 (k : Int) ∧ Aside (openF (zs.take k) = m) ∧ Below w0.heap.size w0 wr)
  case atStart => exact ⟨0, 0, by omega, Nat.le_refl _, rfl, rfl, rfl, Below.refl _ _⟩
  case round =>
    obtain ⟨k, m, hk, hmk, rfl, rfl, hall, bb⟩ := hrel
    by_cases hlt : (k : Int) < (zs.length : Int)
    · obtain ⟨g, rfl⟩ : ∃ g, gk = g + 1 := ⟨gk - 1, by omega⟩
      obtain ⟨gb, o, z, Ai, ci, rfl, hF, hg, hz, c0', c1', c2', c3', hS, hA⟩ := h.at_ (show k < zs.length by omega)
      have hbw := b0.trans (bb.mono b0.size)
      have c0 := (hbw.cell hg).trans c0'
      have c1 := (hbw.cell hg).trans c1'
      have c2 := (hbw.cell hg).trans c2'
      have c3 := (hbw.cell hg).trans c3'
      have bb' := bb.alloc bb.size (.cells #[.int .i64 z.st, .int .i64 z.rs, .slice Ai z.l.length ci, .int .i64 z.la] 46)
      have hk1 : Aside (zs.take (k + 1) = zs.take k ++ [z]) := by
        show zs.take (k + 1) = zs.take k ++ [z]
        rw [List.take_add_one, hz]; rfl
      clear c0' c1' c2' c3' hz
      by_cases hst : z.st = 1
      · go_wp2
        go_roundg g
        case measure => omega
        case rel =>
          refine ⟨k + 1, m + 1, by omega, by omega, by first | rfl | (simp; done), by first | rfl | (simp; done), ?_, bb.alloc bb.size _⟩
          show openF _ = _
          rw [hk1.out, openF, List.countP_append, ← openF, hall.out]
          simp [hst]
      · go_wp2
        go_roundg g
        case measure => omega
        case rel =>
          refine ⟨k + 1, m, by omega, by omega, by first | rfl | (simp; done), by first | rfl | (simp; done), ?_, bb.alloc bb.size _⟩
          show openF _ = _
          rw [hk1.out, openF, List.countP_append, ← openF, hall.out]
          simp [hst]
    · have hkk : k = zs.length := by omega
      go_wp2
      go_ret
      refine ⟨?_, b0.trans (bb.mono b0.size)⟩
      have hall := hall.out
      rw [hkk, List.take_length] at hall
      rw [hall]
      rfl
end Go.Proofs.Ytnjekhnheihooaa
