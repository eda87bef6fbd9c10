/-
  Contracts of package dev: each, copied.
-/
import Derived.Test.YtnjekhnheihooaaDev1
namespace Go.Proofs.Ytnjekhnheihooaa
open Go.RowKit Go.Wag
set_option linter.unusedVariables false

/-- The answer is a device in memory of its own. -/
def DevNew (w : World) (size lf dn : Int) (dw : Bool) (zs : List Zp) (e : Ending) (w' : World) : Prop :=
  ∃ g, e = .returned (.agg #[.int .i64 size, .slice (some ⟨g, 0, none⟩) zs.length zs.length, .int .i64 lf, .bool dw, .int .i64 dn]) ∧ Zo w.heap.size 46 w' g zs ∧ Below w.heap.size w w'

/-- The same, with an error beside it. -/
def DevErr (w : World) (size lf dn : Int) (dw : Bool) (zs : List Zp) (er : Int) (e : Ending) (w' : World) : Prop :=
  ∃ g, e = .returned (.tuple #[.agg #[.int .i64 size, .slice (some ⟨g, 0, none⟩) zs.length zs.length, .int .i64 lf, .bool dw, .int .i64 dn], .int .i64 er]) ∧ Zo w.heap.size 46 w' g zs ∧ Below w.heap.size w w'

theorem dev_stored {B kr g n : Nat} {w w6 : World} {a b c d e : Value} {zs : List Zp} (size lf dn : Int) (dw : Bool) (hB : Blk w6 kr #[a, b, c, d, e] 25) (hZ : Zo B 46 w6 g zs) (hk : kr < B) (hw : w.heap.size ≤ kr) (hb : Below w.heap.size w w6) :
    Blk (((((w6.setCell ⟨kr, 0, none⟩ (.int .i64 size)).setCell ⟨kr, 1, none⟩ (.slice (some ⟨g, 0, none⟩) n n)).setCell ⟨kr, 2, none⟩ (.int .i64 lf)).setCell ⟨kr, 3, none⟩ (.bool dw)).setCell ⟨kr, 4, none⟩ (.int .i64 dn)) kr #[.int .i64 size, .slice (some ⟨g, 0, none⟩) n n, .int .i64 lf, .bool dw, .int .i64 dn] 25 ∧ Zo w.heap.size 46 (((((w6.setCell ⟨kr, 0, none⟩ (.int .i64 size)).setCell ⟨kr, 1, none⟩ (.slice (some ⟨g, 0, none⟩) n n)).setCell ⟨kr, 2, none⟩ (.int .i64 lf)).setCell ⟨kr, 3, none⟩ (.bool dw)).setCell ⟨kr, 4, none⟩ (.int .i64 dn)) g zs ∧ Below w.heap.size w (((((w6.setCell ⟨kr, 0, none⟩ (.int .i64 size)).setCell ⟨kr, 1, none⟩ (.slice (some ⟨g, 0, none⟩) n n)).setCell ⟨kr, 2, none⟩ (.int .i64 lf)).setCell ⟨kr, 3, none⟩ (.bool dw)).setCell ⟨kr, 4, none⟩ (.int .i64 dn)) :=
  ⟨((((hB.set 0 _).set 1 _).set 2 _).set 3 _).set 4 _, Zo.mono (B := B) (Zo.far (a := ⟨kr, 4, none⟩) (Zo.far (a := ⟨kr, 3, none⟩) (Zo.far (a := ⟨kr, 2, none⟩) (Zo.far (a := ⟨kr, 1, none⟩) (Zo.far (a := ⟨kr, 0, none⟩) hZ hk _) hk _) hk _) hk _) hk _) (by omega), ((((hb.setCell hw _).setCell hw _).setCell hw _).setCell hw _).setCell hw _⟩
theorem ret_dev {fn : Func} {tmps : Array Value} {p : Tmp} {B kr g n : Nat} {w w6 : World} {a b c d e : Value} {zs : List Zp} {size lf dn : Int} {dw : Bool} (hr : fn.results = #[.cell p 25]) (hp : tmps.getD p undef = .pointer (some ⟨kr, 0, none⟩))
    (hB : Blk w6 kr #[a, b, c, d, e] 25) (hZ : Zo B 46 w6 g zs) (hn : n = zs.length) (hk : kr < B) (hw : w.heap.size ≤ kr) (hb : Below w.heap.size w w6) :
    bodyPost Try.prog fn (DevNew w size lf dn dw zs) .ret ⟨tmps, []⟩ (((((w6.setCell ⟨kr, 0, none⟩ (.int .i64 size)).setCell ⟨kr, 1, none⟩ (.slice (some ⟨g, 0, none⟩) n n)).setCell ⟨kr, 2, none⟩ (.int .i64 lf)).setCell ⟨kr, 3, none⟩ (.bool dw)).setCell ⟨kr, 4, none⟩ (.int .i64 dn)) := by
  obtain ⟨h1, h2, h3⟩ := dev_stored (n := n) size lf dn dw hB hZ hk hw hb
  exact ret_blk hr hp h1 Try.underlying25 (by kernel_rfl) ⟨g, by rw [hn], h2, h3⟩
theorem ret_dev2 {fn : Func} {tmps : Array Value} {p u : Tmp} {B kr g n : Nat} {w w6 : World} {a b c d e : Value} {zs : List Zp} {size lf dn er : Int} {dw : Bool} (hr : fn.results = #[.cell p 25, .tmp u]) (hp : tmps.getD p undef = .pointer (some ⟨kr, 0, none⟩))
    (hv : tmps.getD u undef = .int .i64 er) (hB : Blk w6 kr #[a, b, c, d, e] 25) (hZ : Zo B 46 w6 g zs) (hn : n = zs.length) (hk : kr < B) (hw : w.heap.size ≤ kr) (hb : Below w.heap.size w w6) :
    bodyPost Try.prog fn (DevErr w size lf dn dw zs er) .ret ⟨tmps, []⟩ (((((w6.setCell ⟨kr, 0, none⟩ (.int .i64 size)).setCell ⟨kr, 1, none⟩ (.slice (some ⟨g, 0, none⟩) n n)).setCell ⟨kr, 2, none⟩ (.int .i64 lf)).setCell ⟨kr, 3, none⟩ (.bool dw)).setCell ⟨kr, 4, none⟩ (.int .i64 dn)) := by
  obtain ⟨h1, h2, h3⟩ := dev_stored (n := n) size lf dn dw hB hZ hk hw hb
  exact ret_blk2 hr hp h1 Try.underlying25 (by kernel_rfl) hv ⟨g, by rw [hn], h2, h3⟩

theorem i46 : (Try.prog.info? 46).map (fun i => (i.zero, i.size, i.bytes)) = some (some (.agg #[.int .i64 0, .int .i64 0, .slice none 0 0, .int .i64 0]), 4, 48) := by kernel_rfl
theorem run_mkz (n : Nat) (hn : n ≤ 100) (w : World) :
    (Instr.makeSlice 23 (.int .i64 (n : Int)) (.int .i64 (n : Int))).run Try.prog w = .ok (.slice (some ⟨w.heap.size, 0, none⟩) n n) (w.alloc (.cells (madeCells #[.int .i64 0, .int .i64 0, .slice none 0 0, .int .i64 0] (n * 4)) 46)) := by
  obtain ⟨i0, hi, hz0, hz1, hz2⟩ := info_parts i46
  have hr := run_make (P := Try.prog) w 23 46 i0 _ Try.underlying23 hi hz0 .i64 .i64 (n : Int) (n : Int) (by omega) (by omega) (by rw [hz2]; omega) (by omega)
  simp only [Int.toNat_natCast, hz1] at hr
  exact hr

set_option maxHeartbeats 1000000 in
theorem deach_any {F : Nat → Prop} (f : FuncId) (cap : Array Value) (G : Nat → Zp → Zp) (size lf dn : Int) (dw : Bool) (A : Option Addr) (n c : Nat) (zs : List Zp) (w : World) (h : Zs F w A n c zs) (hsm : Sm zs)
    (hent : ∀ v u w, (callFunc f (#[v, u] ++ cap)).run Try.prog w = .ok (.enter f (#[v, u] ++ cap)) w)
    (hf : ∀ i z Ai ci w', zs[i]? = some z → Below w.heap.size w w' → Sl w' Ai z.l.length ci (z.l.map v8) → Calls Try.prog f (#[.int .i64 (i : Int), .agg #[.int .i64 z.st, .int .i64 z.rs, .slice Ai z.l.length ci, .int .i64 z.la]] ++ cap) w' (ZoneNew w' (G i z).st (G i z).rs (G i z).l (G i z).la)) :
    Calls Try.prog 30 #[.agg #[.int .i64 size, .slice A n c, .int .i64 lf, .bool dw, .int .i64 dn], .func (.func f) #[] cap] w (DevNew w size lf dn dw (zs.mapIdx G)) := by
  have hlen := h.len
  subst hlen
  have hbig := h.big
  have hcap := h.cap
  have hn := hsm.1
  have hmk := run_mkz zs.length hn
  go_enter Try.func30, Try.ntmps30
  have B0 := (Blk.new w #[.int .i64 size, .slice A zs.length c, .int .i64 lf, .bool dw, .int .i64 dn] 25).alloc (.cells #[.int .i64 0, .slice none 0 0, .int .i64 0, .bool false, .int .i64 0] 25)
  have B1 := Blk.new (w.alloc (.cells #[.int .i64 size, .slice A zs.length c, .int .i64 lf, .bool dw, .int .i64 dn] 25)) #[.int .i64 0, .slice none 0 0, .int .i64 0, .bool false, .int .i64 0] 25
  have b0 := ((Below.refl w.heap.size w).alloc (Nat.le_refl _) (.cells #[.int .i64 size, .slice A zs.length c, .int .i64 lf, .bool dw, .int .i64 dn] 25)).alloc (by simp) (.cells #[.int .i64 0, .slice none 0 0, .int .i64 0, .bool false, .int .i64 0] 25)
  have hs0 : ((w.alloc (.cells #[.int .i64 size, .slice A zs.length c, .int .i64 lf, .bool dw, .int .i64 dn] 25)).alloc (.cells #[.int .i64 0, .slice none 0 0, .int .i64 0, .bool false, .int .i64 0] 25)).heap.size = w.heap.size + 2 := by simp
  simp only [World.size_alloc] at B1
  go_wp2_with fail
  have HZ := Zo.made ((w.alloc (.cells #[.int .i64 size, .slice A zs.length c, .int .i64 lf, .bool dw, .int .i64 dn] 25)).alloc (.cells #[.int .i64 0, .slice none 0 0, .int .i64 0, .bool false, .int .i64 0] 25)) zs.length 46
  have bz := (Below.refl _ ((w.alloc (.cells #[.int .i64 size, .slice A zs.length c, .int .i64 lf, .bool dw, .int .i64 dn] 25)).alloc (.cells #[.int .i64 0, .slice none 0 0, .int .i64 0, .bool false, .int .i64 0] 25))).alloc (Nat.le_refl _) (.cells (madeCells #[.int .i64 0, .int .i64 0, .slice none 0 0, .int .i64 0] (zs.length * 4)) 46)
  rw [hs0] at HZ bz
  clear hmk
  generalize ((w.alloc (.cells #[.int .i64 size, .slice A zs.length c, .int .i64 lf, .bool dw, .int .i64 dn] 25)).alloc (.cells #[.int .i64 0, .slice none 0 0, .int .i64 0, .bool false, .int .i64 0] 25)) = w0 at *
  go_loopg [15] zs.length (fun g i wr => ∃ k : Nat, k + g = zs.length ∧ i = .int .i64 (k : Int) ∧ ∃ L : List Zp, Aside (L.length = zs.length ∧ ∀ i, i < k → L[i]? = (zs.mapIdx G)[i]?) ∧ Zo (w.heap.size + 2) 46 wr (w.heap.size + 2) L ∧ Below (w.heap.size + 2) w0 wr)
  case atStart => exact ⟨0, by omega, rfl, _, ⟨List.length_replicate, fun i hi => absurd hi (by omega)⟩, HZ, bz⟩
  case round =>
    clear HZ bz
    obtain ⟨k, hk, rfl, L, hL, HZ, bb⟩ := hrel
    obtain ⟨hL1, hL2⟩ := hL.out
    have hbw := b0.trans (bb.mono (by omega))
    by_cases hlt : (k : Int) < (zs.length : Int)
    · obtain ⟨g, rfl⟩ : ∃ g, gk = g + 1 := ⟨gk - 1, by omega⟩
      obtain ⟨gb, o, z, Ai, ci, rfl, hF, hg, hz, c0', c1', c2', c3', hS, hA⟩ := h.at_ (show k < zs.length by omega)
      have c0 := (hbw.cell hg).trans c0'
      have c1 := (hbw.cell hg).trans c1'
      have c2 := (hbw.cell hg).trans c2'
      have c3 := (hbw.cell hg).trans c3'
      clear c0' c1' c2' c3'
      replace hL1 : Aside (L.length = zs.length) := hL1
      have hss := bb.size
      go_wp2_with fail
      have hSv := (hS.below hbw).alloc (.cells #[.int .i64 z.st, .int .i64 z.rs, .slice Ai z.l.length ci, .int .i64 z.la] 46)
      have bv := hbw.alloc hbw.size (.cells #[.int .i64 z.st, .int .i64 z.rs, .slice Ai z.l.length ci, .int .i64 z.la] 46)
      have bb' := bb.alloc (by omega) (.cells #[.int .i64 z.st, .int .i64 z.rs, .slice Ai z.l.length ci, .int .i64 z.la] 46)
      have HZ1 := HZ.alloc (.cells #[.int .i64 z.st, .int .i64 z.rs, .slice Ai z.l.length ci, .int .i64 z.la] 46)
      generalize wr.alloc (.cells #[.int .i64 z.st, .int .i64 z.rs, .slice Ai z.l.length ci, .int .i64 z.la] 46) = wv at *
      have hC := hf k z Ai ci wv hz bv hSv
      refine hC.mono ?_
      clear hC
      rintro e w2 ⟨A2, n2, c2, rfl, N2, b2⟩
      obtain rfl : (G k z).l.length = n2 := N2.sl.len8
      have HZ2 := HZ1.under b2
      have hkL : k < L.length := by rw [hL1.out]; omega
      obtain ⟨⟨q0, q1, q2, q3, d0, d1, d2, d3⟩, f0, f1, f2, f3⟩ := HZ2.cells hkL
      have bb2 := bb'.trans (b2.mono (by have := bb'.size; omega))
      have HZ3 := HZ2.set hkL (G k z) N2.sl (fun _ ad e => by
        have h1 := N2.fr ad e
        have h2 := HZ1.lt
        omega)
      go_wp2
      go_roundg g
      case measure => omega
      case rel =>
        refine ⟨k + 1, by omega, by first | rfl | (simp; done) | (simp; exact wrap64_small (by omega) (by omega)), _, ⟨by rw [List.length_set]; exact hL1.out, fun i hi => ?_⟩, HZ3, (((bb2.setCell (Nat.le_refl _) _).setCell (Nat.le_refl _) _).setCell (Nat.le_refl _) _).setCell (Nat.le_refl _) _⟩
        rw [List.getElem?_set]
        by_cases hki : k = i
        · subst hki
          rw [if_pos rfl, if_pos hkL, List.getElem?_mapIdx, hz]
          rfl
        · rw [if_neg hki]
          exact hL2 i (by omega)
    · have hkk : k = zs.length := by omega
      have hLG : L = zs.mapIdx G := by
        apply List.ext_getElem?
        intro i
        by_cases hi : i < k
        · exact hL2 i hi
        · rw [List.getElem?_eq_none (by omega), List.getElem?_eq_none (by rw [List.length_mapIdx]; omega)]
      rw [hLG] at HZ
      replace hL1 : Hid (zs.length = (zs.mapIdx G).length) := (List.length_mapIdx).symm
      clear hLG hL2 hL
      have B0' := B0.below bb (by omega)
      have B1' := B1.below bb (by omega)
      obtain ⟨p0, p1, p2, p3, p4, f0, f1, f2, f3, f4⟩ := B0'.five
      obtain ⟨r0, r1, r2, r3, r4, g0, g1, g2, g3, g4⟩ := B1'.five
      go_wp2
      try simp only [Exit.inBlock, Exit.then]
      exact ret_dev rfl rfl (B1'.far (by simp) _) (HZ.far (by simp) _) hL1.out (by omega) (by omega) (hbw.setCell (Nat.le_refl _) _)

theorem dcopied1_any (i : Int) (z : Zp) (Ai : Option Addr) (ci : Nat) (w : World) (h : Sl w Ai z.l.length ci (z.l.map v8)) (hn : z.l.length ≤ 10000000000000) :
    Calls Try.prog 38 #[.int .i64 i, .agg #[.int .i64 z.st, .int .i64 z.rs, .slice Ai z.l.length ci, .int .i64 z.la]] w (ZoneNew w z.st z.rs z.l z.la) := by
  have B0 := (Blk.new w #[.int .i64 z.st, .int .i64 z.rs, .slice Ai z.l.length ci, .int .i64 z.la] 46).alloc (.cells #[.int .i64 0, .int .i64 0, .slice none 0 0, .int .i64 0] 46)
  have B1 := Blk.new (w.alloc (.cells #[.int .i64 z.st, .int .i64 z.rs, .slice Ai z.l.length ci, .int .i64 z.la] 46)) #[.int .i64 0, .int .i64 0, .slice none 0 0, .int .i64 0] 46
  have b0 := ((Below.refl w.heap.size w).alloc (Nat.le_refl _) (.cells #[.int .i64 z.st, .int .i64 z.rs, .slice Ai z.l.length ci, .int .i64 z.la] 46)).alloc (by simp) (.cells #[.int .i64 0, .int .i64 0, .slice none 0 0, .int .i64 0] 46)
  have hs0 : ((w.alloc (.cells #[.int .i64 z.st, .int .i64 z.rs, .slice Ai z.l.length ci, .int .i64 z.la] 46)).alloc (.cells #[.int .i64 0, .int .i64 0, .slice none 0 0, .int .i64 0] 46)).heap.size = w.heap.size + 2 := by simp
  simp only [World.size_alloc] at B1
  replace h := h.below b0
  go_enter Try.func38, Try.ntmps38
  go_wp2_with fail
  generalize ((w.alloc (.cells #[.int .i64 z.st, .int .i64 z.rs, .slice Ai z.l.length ci, .int .i64 z.la] 46)).alloc (.cells #[.int .i64 0, .int .i64 0, .slice none 0 0, .int .i64 0] 46)) = w0 at *
  refine (dcopiedBytes_any Ai z.l.length ci z.l w0 h hn).mono ?_
  rintro e w1 ⟨A1, c1, rfl, N1, b1⟩
  have B0' := B0.under b1
  have B1' := B1.under b1
  obtain ⟨p0, p1, p2, p3, f0, f1, f2, f3⟩ := B0'.four
  obtain ⟨r0, r1, r2, r3, g0, g1, g2, g3⟩ := B1'.four
  go_wp2
  try simp only [Exit.inBlock, Exit.then]
  exact ret_zone rfl rfl (B1'.far (by simp) _) (own_far N1 (a := ⟨w.heap.size, 2, none⟩) (nw_ne N1 (by simp; omega)) _) (by omega) (by omega) ((b0.trans (b1.mono (by omega))).setCell (Nat.le_refl _) _)

theorem mapIdx_same (zs : List Zp) : zs.mapIdx (fun _ z => z) = zs := by
  apply List.ext_getElem?
  intro i
  rw [List.getElem?_mapIdx]
  simp

theorem dcopied_any {F : Nat → Prop} (size lf dn : Int) (dw : Bool) (A : Option Addr) (n c : Nat) (zs : List Zp) (w : World) (h : Zs F w A n c zs) (hsm : Sm zs) :
    Calls Try.prog 29 #[.agg #[.int .i64 size, .slice A n c, .int .i64 lf, .bool dw, .int .i64 dn]] w (DevNew w size lf dn dw zs) := by
  have B1 := Blk.new (w.alloc (.cells #[.int .i64 size, .slice A n c, .int .i64 lf, .bool dw, .int .i64 dn] 25)) #[.int .i64 0, .slice none 0 0, .int .i64 0, .bool false, .int .i64 0] 25
  have b0 := ((Below.refl w.heap.size w).alloc (Nat.le_refl _) (.cells #[.int .i64 size, .slice A n c, .int .i64 lf, .bool dw, .int .i64 dn] 25)).alloc (by simp) (.cells #[.int .i64 0, .slice none 0 0, .int .i64 0, .bool false, .int .i64 0] 25)
  have hs0 : ((w.alloc (.cells #[.int .i64 size, .slice A n c, .int .i64 lf, .bool dw, .int .i64 dn] 25)).alloc (.cells #[.int .i64 0, .slice none 0 0, .int .i64 0, .bool false, .int .i64 0] 25)).heap.size = w.heap.size + 2 := by simp
  simp only [World.size_alloc] at B1
  replace h := h.below b0
  go_enter Try.func29, Try.ntmps29
  go_wp2_with fail
  generalize ((w.alloc (.cells #[.int .i64 size, .slice A n c, .int .i64 lf, .bool dw, .int .i64 dn] 25)).alloc (.cells #[.int .i64 0, .slice none 0 0, .int .i64 0, .bool false, .int .i64 0] 25)) = w0 at *
  refine (deach_any 38 #[] (fun _ z => z) size lf dn dw A n c zs w0 h hsm (fun _ _ _ => by kernel_rfl) (fun i z Ai ci w' hz _ hS => dcopied1_any i z Ai ci w' hS (by have := hsm.at_ hz; omega))).mono ?_
  rw [mapIdx_same]
  rintro e w1 ⟨g, rfl, Z1, b1⟩
  have B1' := B1.under b1
  obtain ⟨r0, r1, r2, r3, r4, g0, g1, g2, g3, g4⟩ := B1'.five
  go_wp2
  try simp only [Exit.inBlock, Exit.then]
  exact ret_dev rfl rfl B1' Z1 rfl (by omega) (by omega) (b0.trans (b1.mono (by omega)))

theorem dLimit_any {F : Nat → Prop} (size lf dn left : Int) (dw : Bool) (A : Option Addr) (n c : Nat) (zs : List Zp) (w : World) (h : Zs F w A n c zs) (hsm : Sm zs) :
    Calls Try.prog 19 #[.agg #[.int .i64 size, .slice A n c, .int .i64 lf, .bool dw, .int .i64 dn], .int .i64 left] w (DevNew w size left dn dw zs) := by
  have B1 := Blk.new (w.alloc (.cells #[.int .i64 size, .slice A n c, .int .i64 lf, .bool dw, .int .i64 dn] 25)) #[.int .i64 0, .slice none 0 0, .int .i64 0, .bool false, .int .i64 0] 25
  have b0 := ((Below.refl w.heap.size w).alloc (Nat.le_refl _) (.cells #[.int .i64 size, .slice A n c, .int .i64 lf, .bool dw, .int .i64 dn] 25)).alloc (by simp) (.cells #[.int .i64 0, .slice none 0 0, .int .i64 0, .bool false, .int .i64 0] 25)
  have hs0 : ((w.alloc (.cells #[.int .i64 size, .slice A n c, .int .i64 lf, .bool dw, .int .i64 dn] 25)).alloc (.cells #[.int .i64 0, .slice none 0 0, .int .i64 0, .bool false, .int .i64 0] 25)).heap.size = w.heap.size + 2 := by simp
  simp only [World.size_alloc] at B1
  replace h := h.below b0
  go_enter Try.func19, Try.ntmps19
  go_wp2_with fail
  generalize ((w.alloc (.cells #[.int .i64 size, .slice A n c, .int .i64 lf, .bool dw, .int .i64 dn] 25)).alloc (.cells #[.int .i64 0, .slice none 0 0, .int .i64 0, .bool false, .int .i64 0] 25)) = w0 at *
  refine (dcopied_any size lf dn dw A n c zs w0 h hsm).mono ?_
  rintro e w1 ⟨g, rfl, Z1, b1⟩
  have B1' := B1.under b1
  have b2 := b0.trans (b1.mono (by omega))
  have hlt := B1'.lt
  obtain ⟨r0, r1, r2, r3, r4, g0, g1, g2, g3, g4⟩ := B1'.five
  go_wp2
  try simp only [Exit.inBlock, Exit.then]
  obtain ⟨h1, h2, h3⟩ := dev_stored (n := zs.length) size left dn dw B1' Z1 (by omega) (by omega) b2
  exact ret_blk rfl rfl (h1.alloc _) Try.underlying25 (by kernel_rfl) ⟨g, rfl, h2.alloc _, h3.alloc h3.size _⟩
end Go.Proofs.Ytnjekhnheihooaa
