/-
  RecordAll: the walk (written by gen_recall.py).
-/
import Derived.Test.YtjhpjhgofmlecaaDoorRecAwake
namespace Go.Proofs.YtjhpjhgofmlecaaDoor
open Go.RowKit Go.Wag
set_option linter.unusedVariables false
set_option linter.unusedSimpArgs false

/-- What holds at the loop's head: the records that were taken so far, their bytes and places. -/
def AllAt (w : World) (B n : Nat) (g : Nat) (va vs vp vl vi : Value) (wr : World) : Prop :=
  ∃ (i k na La : Nat) (sel : List Rp) (Aa : Option Addr) (ca : Nat) (Ar : Option Addr) (cr : Nat) (Ap : Option Addr) (cp : Nat), va = .slice Aa na ca ∧ vs = .slice Ar k cr ∧ vp = .slice Ap k cp ∧ vl = .int .i64 (La : Int) ∧ vi = .int .i64 (i : Int) ∧
    i + g = n ∧ k ≤ i ∧ na ≤ 220 * k ∧ Hid ((∀ r ∈ sel, r.ok = true) ∧ (allB sel).length = na ∧ ∀ s r, sel = s ++ [r] → La = (recB r).length) ∧
    wr.ownsRow B 5 1 (.slice Aa na ca) na ((allB sel).map v8) ∧ Rq recE (fun x => x < B) B 25 wr Ar k cr sel ∧ wr.ownsRow B 3 1 (.slice Ap k cp) k ((laidAt 0 sel).map fun x => vint x.2) ∧ Below w.heap.size w wr ∧ B ≤ wr.heap.size

theorem sel_snoc {sel : List Rp} {r : Rp} {na n2 : Nat} (hr : r.ok = true) (h : (∀ x ∈ sel, x.ok = true) ∧ (allB sel).length = na ∧ True) (h2 : n2 = (recB r).length) :
    (∀ x ∈ sel ++ [r], x.ok = true) ∧ (allB (sel ++ [r])).length = na + n2 ∧ ∀ s y, sel ++ [r] = s ++ [y] → n2 = (recB y).length := by
  refine ⟨fun x hx => ?_, by rw [allB_snoc, List.length_append, h.2.1, h2], fun s y e => ?_⟩
  · rcases List.mem_append.1 hx with hx | hx
    · exact h.1 x hx
    · rcases List.mem_cons.1 hx with rfl | hx
      · exact hr
      · cases hx
  · have := (List.append_inj' e rfl).2
    cases this
    exact h2

set_option maxRecDepth 100000 in
set_option maxHeartbeats 8000000 in
theorem RecordAll_walk (a0 : Option Addr) (len0 cap0 : Nat) (a1 : Int) (w : World) (hT : Tab w) (w0 : IsSts [.num .i64, .num .i64, .row .u8] w a0 len0 cap0) (w1 : (Lit.int .u16 a1).wf = true) :
    Calls Tryd.prog 6 #[.slice a0 len0 cap0, .int .u16 a1] w (AwakePost w) := by
  obtain ⟨rs, hl0⟩ := recs_of_sts w0
  have hu := bounds_u16 w1
  clear w0 w1
  have hcap0 := hl0.cap
  have hbig0 := hl0.big
  obtain ⟨iB, hiB, hzB, hsB, hbB⟩ := info_parts i5
  obtain ⟨iR, hiR, hzR, hsR, hbR⟩ := iRec
  obtain ⟨iI, hiI, hzI, hsI, hbI⟩ := iInt
  by_cases g8 : (8 : Int) < (len0 : Int)
  · go_enter Tryd.func6, Tryd.ntmps6
    go_wp2_with fail
    refine (awake5_any w hT).mono ?_
    rintro e w1 ⟨rfl, b1⟩
    go_wp2
    go_ret
    exact ⟨rfl, b1⟩
  go_enter Tryd.func6, Tryd.ntmps6
  go_wp2_with fail
  refine (awake5_any w hT).mono ?_
  rintro e w1 ⟨rfl, b1⟩
  have hwB := b1.size
  obtain ⟨B, hB⟩ : ∃ B, w1.heap.size = B := ⟨_, rfl⟩
  rw [hB] at hwB
  go_wp2
  go_loopg [6, 7, 8, 9, 10] len0 (fun g va vs vp vl vi wr => AllAt w B len0 g va vs vp vl vi wr)
  case atStart => exact ⟨0, 0, 0, 0, [], none, 0, none, 0, none, 0, rfl, rfl, rfl, rfl, rfl, by omega, Nat.le_refl _, Nat.zero_le _, ⟨(fun r hr => by cases hr), rfl, fun s r e => by simp at e⟩, World.ownsRow_nil _ _ _ _, Rq.nil _ _ _ _ _, World.ownsRow_nil _ _ _ _, b1, Nat.le_of_eq hB.symm⟩
  case round =>
    clear b1 hB
    obtain ⟨i, k, na, La, sel, Aa, ca, Ar, cr, Ap, cp, rfl, rfl, rfl, rfl, rfl, hig, hki, hna, hD, Oa, Rr, Op, bb, hs⟩ := hrel
    by_cases hlt : (i : Int) < (len0 : Int)
    · obtain ⟨g, rfl⟩ : ∃ g, gk = g + 1 := ⟨gk - 1, by omega⟩
      have hl := hl0.below bb
      obtain ⟨gb, o, r, Ai, ci, rfl, hF, hg, hz, c0, c1, c2, hS, hA⟩ := hl.rec_at (show i < len0 by omega)
      have hgw := Nat.lt_of_lt_of_le hg (Nat.le_refl _)
      clear hz hl
      have hcon : ∀ (W : World), Below wr.heap.size wr W → AllAt w B len0 g (.slice Aa na ca) (.slice Ar k cr) (.slice Ap k cp) (.int .i64 (La : Int)) (.int .i64 ((i : Int) + 1)) W := fun W bW => by
        refine ⟨i + 1, k, na, La, sel, Aa, ca, Ar, cr, Ap, cp, rfl, rfl, rfl, rfl, by simp, by omega, by omega, hna, hD, ?_, Rr.under bW, ?_, bb.trans (bW.mono bb.size), Nat.le_trans hs bW.size⟩
        · exact World.ownsRow.kept Oa (only_of bW none) (by cases hv : Value.ownBlock (.slice Aa na ca) <;> simp)
        · exact World.ownsRow.kept Op (only_of bW none) (by cases hv : Value.ownBlock (.slice Ap k cp) <;> simp)
      replace hcon := Lib.hid hcon
      have hwi : Hid (wrap64 ((i : Int) + 1) = (i : Int) + 1) := by show _ = _; unfold wrap64; omega
      cases hok : r.ok
      · go_wp2_with fail
        refine (BytesErr.no (rWrite_any r.k r.s Ai r.l.length ci r.l wr (hT.below bb) hS) (wrF_no hok)).mono ?_
        rintro e w2 ⟨A2, n2, c2', rfl, s2, f2, b2⟩
        replace c0 := (b2.cell (p := ⟨gb, _, none⟩) hg).trans c0
        replace c1 := (b2.cell (p := ⟨gb, _, none⟩) hg).trans c1
        replace c2 := (b2.cell (p := ⟨gb, _, none⟩) hg).trans c2
        replace hg := Nat.lt_of_lt_of_le hg b2.size
        clear s2 f2
        by_cases h200 : (200 : Int) < (r.l.length : Int)
        all_goals
          go_wp2
          go_roundg g
          case measure => omega
          case rel => exact hcon.out _ b2
      · go_wp2_with fail
        refine (BytesErr.ok (rWrite_any r.k r.s Ai r.l.length ci r.l wr (hT.below bb) hS) (wrF_yes hok)).mono ?_
        rintro e w2 ⟨A2, n2, c2', rfl, s2, f2, b2⟩
        replace c0 := (b2.cell (p := ⟨gb, _, none⟩) hg).trans c0
        replace c1 := (b2.cell (p := ⟨gb, _, none⟩) hg).trans c1
        replace c2 := (b2.cell (p := ⟨gb, _, none⟩) hg).trans c2
        replace hg := Nat.lt_of_lt_of_le hg b2.size
        by_cases h200 : (200 : Int) < (r.l.length : Int)
        · clear s2 f2
          go_wp2
          go_roundg g
          case measure => omega
          case rel => exact hcon.out _ b2
        · clear hcon
          have hn2 : n2 = r.l.length + 20 := by rw [← s2.len8, recB_length]
          replace hS := hS.below b2
          have hlo := World.ownsRow.lt Op
          have hlr := Rr.lt
          have hla := World.ownsRow.lt Oa
          have fr2 := f2.fr
          have hp2 : ∀ ad, A2 = some ad → some ad.block ≠ (Value.slice Ap k cp).ownBlock := fun ad e e2 => by
            have h1 := fr2 ad e
            have h2 := (hlo _ e2.symm).2
            omega
          have hr2 : ∀ ad, A2 = some ad → some ad.block ≠ (Value.slice Ar k cr).ownBlock := fun ad e e2 => by
            have h1 := fr2 ad e
            have h2 := (hlr _ e2.symm).2
            omega
          clear fr2 f2
          replace Oa := World.ownsRow.kept Oa (only_of b2 none) (by cases hv : Value.ownBlock (.slice Aa na ca) <;> simp)
          replace Op := World.ownsRow.kept Op (only_of b2 none) (by cases hv : Value.ownBlock (.slice Ap k cp) <;> simp)
          replace Rr := Rr.under b2
          replace bb := bb.trans (b2.mono bb.size)
          replace hs := Nat.le_trans hs b2.size
          clear b2
          have a1 := (Below.refl w2.heap.size w2).alloc (Nat.le_refl _) (.cells #[.int .i64 r.k, .int .i64 r.s, .slice Ai r.l.length ci] 25)
          have Bs := Blk.new w2 #[.int .i64 r.k, .int .i64 r.s, .slice Ai r.l.length ci] 25
          have hrd : recE.rd (fun x => x < B ∧ (Value.slice Ar k cr).ownBlock ≠ some x) w2 [.int .i64 r.k, .int .i64 r.s, .slice Ai r.l.length ci] r := ⟨Ai, ci, rfl, hS, fun hn ad e => by
            have h1 := hA hn ad e
            refine ⟨by omega, fun e2 => ?_⟩
            have := (hlr _ e2).1
            omega⟩
          replace Oa := World.ownsRow.kept Oa (only_of a1 none) (by cases hv : Value.ownBlock (.slice Aa na ca) <;> simp)
          replace Op := World.ownsRow.kept Op (only_of a1 none) (by cases hv : Value.ownBlock (.slice Ap k cp) <;> simp)
          replace Rr := Rr.under a1
          replace hrd := Elt.below hrd a1
          replace s2 := s2.below a1
          replace bb := bb.trans (a1.mono bb.size)
          replace hs := Nat.le_trans hs a1.size
          clear a1
          obtain ⟨A5, c5, w5, hr, R5, gr, hlies⟩ := Rr.app (P := Tryd.prog) (T := 35) (ty := 35) Tryd.underlying35 hiR hzR hsR hbR rfl hs (by omega) (by omega) hrd (one_rec _ _ _ _ _) Bs
          obtain ⟨cs, hcs, _⟩ := Rr.row
          have hpr := own_types Op hcs (by decide)
          have har := own_types Oa hcs (by decide)
          replace Op := World.ownsRow.kept Op gr (by
            cases hv : Value.ownBlock (.slice Ap k cp) with
            | none => exact .inl rfl
            | some x => exact .inr (fun e => hpr x hv e.symm))
          replace Oa := World.ownsRow.kept Oa gr (by
            cases hv : Value.ownBlock (.slice Aa na ca) with
            | none => exact .inl rfl
            | some x => exact .inr (fun e => har x hv e.symm))
          replace s2 := s2.grown gr hr2
          replace bb := bb.grown gr (by omega) (fun x hx => by have := (hlr x hx).1; omega)
          replace hs := Nat.le_trans hs gr.size
          clear hcs hpr har gr hrd Bs hlies Rr hr2
          have a6 := (Below.refl w5.heap.size w5).alloc (Nat.le_refl _) (.cells #[.int .i64 (na : Int)] 3)
          replace Oa := World.ownsRow.kept Oa (only_of a6 none) (by cases hv : Value.ownBlock (.slice Aa na ca) <;> simp)
          replace Op := World.ownsRow.kept Op (only_of a6 none) (by cases hv : Value.ownBlock (.slice Ap k cp) <;> simp)
          replace R5 := R5.under a6
          replace s2 := s2.below a6
          replace bb := bb.trans (a6.mono bb.size)
          replace hs := Nat.le_trans hs a6.size
          clear a6
          have S6 : Sl (w5.alloc (.cells #[.int .i64 (na : Int)] 3)) (some ⟨w5.heap.size, 0, none⟩) 1 1 [.int .i64 (na : Int)] := Sl.new w5 [.int .i64 (na : Int)] 3 (by simp)
          have HO := Own.start Op hs
          obtain ⟨A7, c7, w7, hr7, hw7⟩ := run_app (P := Tryd.prog) HO 36 36 iI (.int .i64 0) 8 Tryd.underlying36 hiI hzI hsI hbI rfl _ _ _ _ S6 (one_int _) (by omega) (by omega)
          obtain ⟨cs, hcs, _⟩ := R5.row
          have hpr := own_types hcs Op (by decide)
          have hap := own_types Oa Op (by decide)
          replace Oa := World.ownsRow.kept Oa hw7.grown (by
            cases hv : Value.ownBlock (.slice Aa na ca) with
            | none => exact .inl rfl
            | some x => exact .inr (fun e => hap x hv e.symm))
          replace R5 := R5.grown hw7.grown (fun x hx e => hpr x hx e) (fun x _ hf e => by have := (hlo x e).1; omega)
          replace s2 := s2.grown hw7.grown hp2
          replace bb := bb.grown hw7.grown (by omega) (fun x hx => by have := (hlo x hx).1; omega)
          replace hs := Nat.le_trans hs hw7.grown.size
          have O7 := hw7.own
          clear hcs hpr hap HO S6 hw7 Op hp2
          have HA := Own.start Oa hs
          obtain ⟨A9, c9, w9, hr9, hw9⟩ := run_app (P := Tryd.prog) HA 23 23 iB (.int .u8 0) 1 Tryd.underlying23 hiB hzB hsB hbB rfl _ _ _ _ s2 (oneCell8 _) (by omega) (by omega)
          obtain ⟨cs, hcs, _⟩ := R5.row
          have hpr := own_types hcs Oa (by decide)
          have hap := own_types O7 Oa (by decide)
          replace O7 := World.ownsRow.kept O7 hw9.grown (by
            cases hv : Value.ownBlock (.slice A7 (k + 1) c7) with
            | none => exact .inl rfl
            | some x => exact .inr (fun e => hap x hv e.symm))
          replace R5 := R5.grown hw9.grown (fun x hx e => hpr x hx e) (fun x _ hf e => by have := (hla x e).1; omega)
          replace bb := bb.grown hw9.grown (by omega) (fun x hx => by have := (hla x hx).1; omega)
          replace hs := Nat.le_trans hs hw9.grown.size
          have O9 := hw9.own
          rw [← List.map_append] at O9
          clear hcs hpr hap HA hw9 Oa s2 hlo hlr hla
          replace hn2 := Lib.hid hn2
          go_wp2_with (at_builtin; first | (refine wpList_run rfl (.tmp 48) (.tmp 53) 35 rfl rfl rfl hr ?_; intro _) | (refine wpList_run rfl (.tmp 55) (.tmp 58) 36 rfl rfl rfl hr7 ?_; intro _) | (refine wpList_run rfl (.tmp 62) (.tmp 63) 23 rfl rfl rfl hr9 ?_; intro _))
          go_roundg g
          case measure => omega
          case rel =>
            have hD2 := sel_snoc (n2 := n2) hok ⟨hD.out.1, hD.out.2.1, trivial⟩ (by rw [hn2.out, recB_length])
            refine ⟨i + 1, k + 1, na + n2, n2, sel ++ [r], A9, c9, A5, c5, A7, c7, rfl, rfl, rfl, rfl, by simp, by omega, by omega, by have := hn2.out; omega, hD2, ?_, R5, ?_, bb, hs⟩
            · rw [allB_snoc]
              exact O9
            · rw [laid_snoc, List.map_append, hD.out.2.1, Nat.zero_add]
              exact O7
    · obtain rfl : i = len0 := by omega
      obtain ⟨hok, hal, hlast⟩ := hD.out
      have hsl := Rr.len
      have sa := Sl.of_own Oa
      have Rs0 := (Rr.imp (F' := fun _ => True) (fun _ _ _ => trivial)).toRs (fun _ _ _ => trivial)
      have sp : Sl wr Ap k cp (((laidAt 0 sel).map fun x => ((x.2 : Nat) : Int)).map vint) := by rw [List.map_map]; exact Sl.of_own Op
      have hca := sa.cap
      have hba := sa.big
      have hcr := Rs0.cap
      have hbr := Rs0.big
      have hcp := sp.cap
      have hbp := sp.big
      clear hD Oa Rr Op
      replace hig := Lib.hid hig
      replace hal := Lib.hid hal
      replace hsl := Lib.hid hsl
      replace hlast := Lib.hid hlast
      have hC := rScan_any Aa na ca (allB sel) wr (hT.below bb) sa (by omega)
      rw [sc_recs hok] at hC
      go_wp2_with fail
      refine hC.mono ?_
      clear hC
      rintro e w2 ⟨A3, k3, c3, A4, c4, hk3, rfl, R3, N4, b2⟩
      obtain rfl : k3 = k := by rw [hk3, laid_length, hsl.out]
      rw [laid_fst] at R3
      have s4 : Sl w2 A4 k3 c4 (((laidAt 0 sel).map fun x => ((x.2 : Nat) : Int)).map vint) := by rw [List.map_map]; exact N4.sl
      replace hk3 := Lib.hid hk3
      replace sa := sa.below b2
      replace Rs0 := Rs0.below b2
      replace sp := sp.below b2
      replace bb := bb.trans (b2.mono bb.size)
      clear b2 N4
      go_wp2_with fail
      refine (allSame_any sel A3 k3 c3 Ar cr w2 R3 Rs0).mono ?_
      rintro e w3 ⟨rfl, b3⟩
      replace sa := sa.below b3
      replace Rs0 := Rs0.below b3
      replace sp := sp.below b3
      replace s4 := s4.below b3
      replace bb := bb.trans (b3.mono bb.size)
      clear b3 R3
      go_wp2_with fail
      refine (numSame_any _ A4 k3 c4 Ap cp w3 s4 sp).mono ?_
      rintro e w4 ⟨rfl, b4⟩
      replace sa := sa.below b4
      replace Rs0 := Rs0.below b4
      replace sp := sp.below b4
      replace bb := bb.trans (b4.mono bb.size)
      clear b4 s4
      rcases Nat.eq_zero_or_pos k3 with h0 | h0
      · subst h0
        go_wp2
        go_ret
        exact ⟨rfl, bb⟩
      · obtain ⟨ini, r, rfl⟩ : ∃ ini r, sel = ini ++ [r] := ⟨sel.dropLast, sel.getLast (by intro e; have hsl := hsl.out; rw [e] at hsl; simp at hsl; omega), (List.dropLast_concat_getLast _).symm⟩
        obtain ⟨k, rfl⟩ : ∃ k, k3 = k + 1 := ⟨k3 - 1, by omega⟩
        have hil : ini.length = k := by simpa using hsl.out
        have hLa := hlast.out ini r rfl
        have hal := hal.out
        have hrok := hok r (by simp)
        have hiok : ∀ x ∈ ini, x.ok = true := fun x hx => hok x (by simp [hx])
        rw [allB_snoc, List.length_append, ← hLa] at hal
        have hL20 : 20 ≤ La := by rw [hLa, recB_length]; omega
        obtain ⟨q, hq⟩ : ∃ q : Nat, a1 % (La : Int) = (q : Int) := ⟨(a1 % (La : Int)).toNat, by have := Int.emod_nonneg a1 (show (La : Int) ≠ 0 by omega); omega⟩
        have hq2 : q < La := by have := Int.emod_lt_of_pos a1 (show 0 < (La : Int) by omega); omega
        have hqt : Int.tmod a1 (La : Int) = (q : Int) := by rw [Int.tmod_eq_emod_of_nonneg (by omega)]; exact hq
        obtain ⟨m, hm⟩ : ∃ m, m + 1 + q = na := ⟨na - 1 - q, by omega⟩
        have e1 : wrap64 ((na : Int) - 1) = (na : Int) - 1 := by unfold wrap64; omega
        have e2 : wrap64 ((na : Int) - 1 - (q : Int)) = (m : Int) := by unfold wrap64; omega
        have e3 : wrap64 ((((k + 1 : Nat) : Nat) : Int) - 1) = (k : Int) := by unfold wrap64; omega
        have e4 : wrap64 ((k : Int) + 1 - 1) = (k : Int) := by unfold wrap64; omega
        have hL0 : ¬ (La : Int) = 0 := by omega
        have hL1 : ((La : Int) == 0) = false := by simp; omega
        have hk0 : (((k : Int) + 1) == 0) = false := by simp; omega
        have su := sa.upto (m := m) (by omega)
        rw [← List.map_take] at su
        have hcut : (allB (ini ++ [r])).take m = allB ini ++ (recB r).take (m - (allB ini).length) := by rw [allB_snoc, List.take_append, List.take_of_length_le (by omega)]
        rw [hcut] at su
        have hC := rScan_any Aa m ca _ w4 (hT.below bb) su (by omega)
        rw [sc_recs_cut hiok hrok (by omega)] at hC
        have Ru := Rs0.upto (m := k) (by omega)
        have pu := sp.upto (m := k) (by omega)
        rw [List.take_append_of_le_length (by omega), List.take_of_length_le (by omega)] at Ru
        rw [laid_snoc, List.map_append, List.map_append, List.take_append_of_le_length (by simp [laid_length]; omega), List.take_of_length_le (by simp [laid_length]; omega)] at pu
        replace hLa := Lib.hid hLa
        replace hil := Lib.hid hil
        have hmc : m ≤ ca := by omega
        have hkr : k ≤ cr := by omega
        have hkp : k ≤ cp := by omega
        replace hm := Lib.hid hm
        replace hq := Lib.hid hq
        clear hcut hlast hal hsl su Rs0 sp sa hok hiok hrok
        go_wp2_with fail
        refine hC.mono ?_
        clear hC
        rintro e w5 ⟨A5, k5, c5, A6, c6, hk5, rfl, R5, N6, b5⟩
        obtain rfl : k5 = k := by rw [hk5, laid_length, hil.out]
        rw [laid_fst] at R5
        have s6 : Sl w5 A6 k5 c6 (((laidAt 0 ini).map fun x => ((x.2 : Nat) : Int)).map vint) := by rw [List.map_map]; exact N6.sl
        replace hk5 := Lib.hid hk5
        replace Ru := Ru.below b5
        replace pu := pu.below b5
        replace bb := bb.trans (b5.mono bb.size)
        clear b5 N6
        go_wp2_with fail
        refine (allSame_any ini A5 k5 c5 Ar cr w5 R5 Ru).mono ?_
        rintro e w6 ⟨rfl, b6⟩
        replace pu := pu.below b6
        replace s6 := s6.below b6
        replace bb := bb.trans (b6.mono bb.size)
        clear b6
        go_wp2_with fail
        refine (numSame_any _ A6 k5 c6 Ap cp w6 s6 pu).mono ?_
        rintro e w7 ⟨rfl, b7⟩
        replace bb := bb.trans (b7.mono bb.size)
        go_wp2
        go_ret
        exact ⟨rfl, bb⟩
end Go.Proofs.YtjhpjhgofmlecaaDoor
