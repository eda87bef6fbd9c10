/-
  DevStops: the walk (written by gen_devstops.py).
-/
import Derived.Test.YtnjekhnheihooaaDevAwake
namespace Go.Proofs.Ytnjekhnheihooaa
open Go.RowKit Go.Wag
set_option linter.unusedVariables false

/-- The one zone of a device that takes bytes one by one. -/
def stopZ (l : List UInt8) : List Zp := [⟨if l.length = 0 then 0 else 1, 0, 0, l⟩]
theorem sm_stop (l : List UInt8) (h : l.length ≤ 200) : Sm (stopZ l) := ⟨by simp [stopZ], fun z hz => by
  rcases List.mem_cons.1 hz with rfl | hz
  · show l.length ≤ _
    omega
  · cases hz⟩
theorem dev_stop (l : List UInt8) (h : l.length ≤ 200) : devF 300 (stopZ l) = true := by
  have h0 : (l.length : Int) ≤ 200 := by omega
  rw [devF, show mayF ((stopZ l).length : Int) 300 = true from rfl]
  simp only [stopZ, List.all_cons, List.all_nil, zchk, Bool.true_and, Bool.and_true, chkF, decide_eq_true_eq]
  split <;> omega
theorem ru_stop (l : List UInt8) (h : l.length ≤ 199) (b : UInt8) (lf dn : Int) (hl : 0 < lf) (hd : 0 ≤ dn ∧ dn ≤ 1000) : ruLf 300 lf false (stopZ l) = lf - 1 ∧ ruDn 300 lf dn false (stopZ l) = dn + 1 ∧ ruDw 300 lf false (stopZ l) = false ∧ ruZs 300 lf false (stopZ l) 1 0 [b] = stopZ (l ++ [b]) ∧ ruEr 300 lf false (stopZ l) 1 0 [b] = 0 := by
  have h0 : (l.length : Int) ≤ 199 := by omega
  have hd2 := dev_stop l (by omega)
  have hu : upF lf false = true := by simp [upF]; omega
  have hg : goF 300 lf false (stopZ l) = true := by simp [goF, hd2, hu]
  have hw : wrap64 (dn + 1) = dn + 1 := wrap64_small (by omega) (by omega)
  have hop : openF (stopZ l) ≤ 1 := by simp only [openF, stopZ]; exact List.countP_le_length
  have hno : apNo (openF (stopZ l)) (⟨if l.length = 0 then 0 else 1, 0, 0, l⟩ : Zp) = false := by simp [apNo]; omega
  have her : apE 300 (openF (stopZ l)) [b] (⟨if l.length = 0 then 0 else 1, 0, 0, l⟩ : Zp) = 0 := by
    have hc : chkF (if l.length = 0 then 0 else 1) 0 l.length 0 300 = true := by
      simp only [chkF, decide_eq_true_eq]
      split <;> omega
    have hr : roomF (if l.length = 0 then 0 else 1) 0 l.length 0 300 = 300 - l.length := by
      rw [roomF, if_pos ⟨hc, by split <;> omega⟩]
    rw [apE, hno]
    simp only [Bool.false_eq_true, if_false, appErrF, hc, hr]
    rw [if_pos (by simp), if_pos (by simp; omega)]
  refine ⟨by simp [ruLf, hg, hl], by simp [ruDn, hg, hw], by simp [ruDw, hd2, hu], ?_, ?_⟩
  · have hH : apH 300 (openF (stopZ l)) [b] (⟨if l.length = 0 then 0 else 1, 0, 0, l⟩ : Zp) = ⟨1, 0, 0, l ++ [b]⟩ := by
      have her2 := her
      rw [apE, hno] at her2
      simp only [Bool.false_eq_true, if_false] at her2
      rw [apH, hno]
      simp only [Bool.false_eq_true, if_false, appSt, appDa, her2, if_true, fullF]
      rw [if_neg (by simp; omega)]
    rw [ruZs, hg, if_pos rfl, cmdZs, if_pos rfl, chgZs, if_pos (by simp [stopZ])]
    show (if apE 300 (openF (stopZ l)) [b] (⟨if l.length = 0 then 0 else 1, 0, 0, l⟩ : Zp) = 0 then (stopZ l).set 0 (apH 300 (openF (stopZ l)) [b] ⟨if l.length = 0 then 0 else 1, 0, 0, l⟩) else stopZ l) = _
    rw [if_pos her, hH]
    simp [stopZ]
  · rw [ruEr, hd2, if_pos rfl, hu, if_pos rfl, cmdEr, if_pos rfl, chgEr, if_pos (by simp [stopZ])]
    exact her
theorem ru_down (size dn : Int) (dw : Bool) (zs : List Zp) (hd : devF size zs = true) (b : List UInt8) : ruLf size 0 dw zs = 0 ∧ ruDn size 0 dn dw zs = dn ∧ ruDw size 0 dw zs = true ∧ ruZs size 0 dw zs 1 0 b = zs ∧ ruEr size 0 dw zs 1 0 b = 40 := by
  have hu : upF 0 dw = false := by simp [upF]
  simp [ruLf, ruDn, ruDw, ruZs, ruEr, goF, hd, hu]

theorem fl_stop (l : List UInt8) (n : Nat) (hl : l.length = n) (hn : n < 200) : Sm (cdZs 300 [] (stopZ l)) ∧ ruDw 300 (-1) false (cdZs 300 [] (stopZ l)) = false ∧ ruEr 300 (-1) false (cdZs 300 [] (stopZ l)) 5 0 [] = 0 := by
  have h0 : (l.length : Int) ≤ 200 := by omega
  have e : cdZs 300 [] (stopZ l) = [zero4] := by
    have hc : chkF (if l.length = 0 then 0 else 1) 0 l.length 0 300 = true := by
      simp only [chkF, decide_eq_true_eq]
      split <;> omega
    have hk : crK (l.length : Int) 0 0 = 0 := by
      unfold crK
      omega
    rw [cdZs, dev_stop l (by omega), if_pos rfl, crZs]
    show [crZ 300 (keepAt [] 0) (⟨if l.length = 0 then 0 else 1, 0, 0, l⟩ : Zp)] = [zero4]
    rw [show keepAt [] 0 = 0 from rfl]
    simp only [crZ, crSt, crDa, crLa, hc, hk, if_true]
    rfl
  rw [e]
  exact ⟨⟨by simp, fun z hz => by
    rcases List.mem_cons.1 hz with rfl | hz
    · decide
    · cases hz⟩, by kernel_rfl, by kernel_rfl⟩

set_option maxHeartbeats 1600000 in
theorem DevStops_walk (a0 : Int) (w : World) (w0 : (Lit.int .u8 a0).wf = true) : Calls Try.prog 7 #[.int .u8 a0] w (AwakePost w) := by
  have ha := wf_u8 w0
  have bb := Below.refl w.heap.size w
  go_enter Try.func7, Try.ntmps7
  go_wp2_with fail
  have hC := awake4_any w
  refine hC.mono ?_
  clear hC
  rintro e w1 ⟨rfl, ba⟩
  replace bb := bb.trans (ba.mono bb.size)
  go_wp2_with fail
  have hC := dNew_at 1 300 [zero4] 1 w1 rfl rfl rfl (by decide)
  refine hC.mono ?_
  clear hC
  rintro e w2 ⟨A1, rfl, z1, b1⟩
  replace bb := bb.trans (b1.mono bb.size)
  replace z1 := z1.alloc (.cells #[.int .i64 300, .slice A1 1 1, .int .i64 (-1), .bool false, .int .i64 0] 25)
  replace bb := bb.alloc bb.size (.cells #[.int .i64 300, .slice A1 1 1, .int .i64 (-1), .bool false, .int .i64 0] 25)
  have Bd := Blk.new w2 #[.int .i64 300, .slice A1 1 1, .int .i64 (-1), .bool false, .int .i64 0] 25
  go_wp2_with fail
  generalize (w2.alloc (.cells #[.int .i64 300, .slice A1 1 1, .int .i64 (-1), .bool false, .int .i64 0] 25)) = W1 at *
  obtain ⟨n, hn⟩ : ∃ n : Nat, a0 % 200 = (n : Int) := ⟨(a0 % 200).toNat, by omega⟩
  have hn2 : n < 200 := by omega
  simp only [hn]
  have hC := dLimit_at 300 (-1) 0 (n : Int) false A1 1 1 [zero4] W1 z1 (sm_stop [] (by decide))
  refine hC.mono ?_
  clear hC
  rintro e w3 ⟨A2, rfl, z2, b2⟩
  replace z1 := z1.below b2
  replace Bd := Bd.under b2
  replace bb := bb.trans (b2.mono bb.size)
  clear z1 Bd
  replace z2 := z2.imp (F' := fun b => b ≠ w3.heap.size) (fun b hb _ => Nat.ne_of_lt hb)
  have hkb := bb.size
  replace z2 := z2.alloc (.cells #[.int .i64 300, .slice A2 1 1, .int .i64 (n : Int), .bool false, .int .i64 0] 25)
  replace bb := bb.alloc bb.size (.cells #[.int .i64 300, .slice A2 1 1, .int .i64 (n : Int), .bool false, .int .i64 0] 25)
  have Bx := Blk.new w3 #[.int .i64 300, .slice A2 1 1, .int .i64 (n : Int), .bool false, .int .i64 0] 25
  go_wp2_with fail
  generalize (w3.alloc (.cells #[.int .i64 300, .slice A2 1 1, .int .i64 (n : Int), .bool false, .int .i64 0] 25)) = W2 at *
  obtain ⟨kx, hkx⟩ : ∃ k, w3.heap.size = k := ⟨_, rfl⟩
  simp only [hkx] at Bx z2 hkb ⊢
  clear hkx b2 b1 ba
  go_loopg [8] (n + 3) (fun g i wr => ∃ k : Nat, k + g = n + 3 ∧ i = .int .i64 (k : Int) ∧ ∃ (A : Option Addr) (l : List UInt8) (lf dn : Int) (dw : Bool), Hid (l.length = min k n ∧ lf = (n : Int) - min k n ∧ dn = min k n ∧ dw = decide (n < k)) ∧ Blk wr kx #[.int .i64 300, .slice A 1 1, .int .i64 lf, .bool dw, .int .i64 dn] 25 ∧ Zs (fun b => b ≠ kx) wr A 1 1 (stopZ l) ∧ Below w.heap.size w wr)
  case atStart => exact ⟨0, by omega, rfl, A2, [], n, 0, false, ⟨by simp, by simp, by simp, by simp⟩, Bx, z2, bb⟩
  case round =>
    clear Bx z2 bb
    obtain ⟨k, hk, rfl, A, l, lf, dn, dw, hv, Bx, zx, bb⟩ := hrel
    obtain ⟨p0, p1, p2, p3, p4, f0, f1, f2, f3, f4⟩ := Bx.five
    have hxl := Bx.lt
    by_cases hlt : (k : Int) < (n : Int) + 3
    · obtain ⟨g, rfl⟩ : ∃ g, gk = g + 1 := ⟨gk - 1, by omega⟩
      obtain ⟨b, hb⟩ : ∃ b : UInt8, v8 b = .int .u8 (k : Int) := ⟨UInt8.ofNat k, by simp only [v8]; congr 1; simp; omega⟩
      have lb := slB4 wr [b] #[.int .u8 (k : Int)] (by simp [hb]) (by simp)
      clear hb
      have zb := zx.alloc (.cells #[.int .u8 (k : Int)] 5)
      have Bb := Bx.alloc (.cells #[.int .u8 (k : Int)] 5)
      have bb2 := bb.alloc bb.size (.cells #[.int .u8 (k : Int)] 5)
      by_cases hkn : (k : Int) < (n : Int)
      · obtain ⟨rfl, hlf, hdn, hln⟩ : dw = false ∧ Hid (lf = (n : Int) - k) ∧ Hid (dn = (k : Int)) ∧ l.length = k := by
          obtain ⟨h1, h2, h3, h4⟩ := hv.out
          exact ⟨by rw [h4]; simp; omega, by show lf = _; rw [h2]; omega, by show dn = _; rw [h3]; omega, by omega⟩
        go_wp2_with fail
        have hl3 := hlf.out
        have hd3 := hdn.out
        obtain ⟨e1, e2, e3, e4, e5⟩ := ru_stop l (by omega) b lf dn (by omega) (by omega)
        generalize wr.alloc (.cells #[.int .u8 (k : Int)] 5) = wX at *
        refine (dDo_at 300 lf dn false A 1 1 (stopZ l) 1 0 _ 1 1 [b] (lf - 1) (dn + 1) false (stopZ (l ++ [b])) 0 wX zb (sm_stop l (by omega)) lb (by decide) (by omega) e1 e2 e3 e4 e5).mono ?_
        rintro e w5 ⟨A5, rfl, z5, b5⟩
        have hX := Bb.lt
        have B5 := Bb.under b5
        have hX5 := B5.lt
        have bb5 := bb2.trans (b5.mono bb2.size)
        replace z5 := z5.imp (F' := fun b => b ≠ kx) (fun b hb hf e => by omega)
        clear p0 p1 p2 p3 p4 f0 f1 f2 f3 f4
        obtain ⟨p0, p1, p2, p3, p4, f0, f1, f2, f3, f4⟩ := B5.five
        have hv2 : Hid ((l ++ [b]).length = min (k + 1) n ∧ lf - 1 = (n : Int) - min (k + 1) n ∧ dn + 1 = min (k + 1) n ∧ false = decide (n < k + 1)) := by
          refine ⟨by simp; omega, by rw [hlf.out]; omega, by rw [hdn.out]; omega, by simp; omega⟩
        clear hv hln hl3 hd3 e1 e2 e3 e4 e5
        go_wp2
        go_roundg g
        case measure => omega
        case rel =>
          refine ⟨k + 1, by omega, by first | rfl | (simp; done), A5, _, _, _, _, hv2, (((((B5.set 0 _).set 1 _).set 2 _).set 3 _).set 4 _).alloc _, ?_, ?_⟩
          · exact (((((z5.far (a := ⟨kx, 0, none⟩) (fun h => h rfl) _).far (a := ⟨kx, 1, none⟩) (fun h => h rfl) _).far (a := ⟨kx, 2, none⟩) (fun h => h rfl) _).far (a := ⟨kx, 3, none⟩) (fun h => h rfl) _).far (a := ⟨kx, 4, none⟩) (fun h => h rfl) _).alloc _
          · exact (((((bb5.setCell hkb _).setCell hkb _).setCell hkb _).setCell hkb _).setCell hkb _).alloc (by simp [World.setCell]; exact bb5.size) _
      · obtain ⟨rfl, hln⟩ : lf = 0 ∧ l.length = n := by
          obtain ⟨h1, h2, h3, h4⟩ := hv.out
          exact ⟨by rw [h2]; omega, by omega⟩
        obtain ⟨e1, e2, e3, e4, e5⟩ := ru_down 300 dn dw (stopZ l) (dev_stop l (by omega)) [b]
        go_wp2_with fail
        generalize wr.alloc (.cells #[.int .u8 (k : Int)] 5) = wX at *
        refine (dDo_at 300 0 dn dw A 1 1 (stopZ l) 1 0 _ 1 1 [b] 0 dn true (stopZ l) 40 wX zb (sm_stop l (by omega)) lb (by decide) (by omega) e1 e2 e3 e4 e5).mono ?_
        rintro e w5 ⟨A5, rfl, z5, b5⟩
        have hX := Bb.lt
        have B5 := Bb.under b5
        have hX5 := B5.lt
        have bb5 := bb2.trans (b5.mono bb2.size)
        replace z5 := z5.imp (F' := fun b => b ≠ kx) (fun b hb hf e => by omega)
        clear p0 p1 p2 p3 p4 f0 f1 f2 f3 f4
        obtain ⟨p0, p1, p2, p3, p4, f0, f1, f2, f3, f4⟩ := B5.five
        have hv2 : Hid (l.length = min (k + 1) n ∧ (0 : Int) = (n : Int) - min (k + 1) n ∧ dn = min (k + 1) n ∧ true = decide (n < k + 1)) := by
          obtain ⟨h1, h2, h3, h4⟩ := hv.out
          exact ⟨by omega, by omega, by rw [h3]; omega, by simp; omega⟩
        clear hv hln e1 e2 e3 e4 e5
        go_wp2
        go_roundg g
        case measure => omega
        case rel =>
          refine ⟨k + 1, by omega, by first | rfl | (simp; done), A5, _, _, _, _, hv2, (((((B5.set 0 _).set 1 _).set 2 _).set 3 _).set 4 _).alloc _, ?_, ?_⟩
          · exact (((((z5.far (a := ⟨kx, 0, none⟩) (fun h => h rfl) _).far (a := ⟨kx, 1, none⟩) (fun h => h rfl) _).far (a := ⟨kx, 2, none⟩) (fun h => h rfl) _).far (a := ⟨kx, 3, none⟩) (fun h => h rfl) _).far (a := ⟨kx, 4, none⟩) (fun h => h rfl) _).alloc _
          · exact (((((bb5.setCell hkb _).setCell hkb _).setCell hkb _).setCell hkb _).setCell hkb _).alloc (by simp [World.setCell]; exact bb5.size) _
    · obtain rfl : k = n + 3 := by omega
      obtain ⟨rfl, rfl, hdn, hln⟩ : lf = 0 ∧ dw = true ∧ dn = (n : Int) ∧ l.length = n := by
        obtain ⟨h1, h2, h3, h4⟩ := hv.out
        exact ⟨by rw [h2]; omega, by rw [h4]; exact decide_eq_true (by omega), by rw [h3]; omega, by omega⟩
      subst hdn
      clear hv
      go_wp2_with fail
      refine (dCrash_at 300 0 n true A 1 1 (stopZ l) none 0 0 [] (-1) false (cdZs 300 [] (stopZ l)) wr zx (sm_stop l (by omega)) (Sl.nil _) (fun x hx => by cases hx) (by simp [cdLf, dev_stop l (by omega)]) (by simp [cdDw, dev_stop l (by omega)]) rfl).mono ?_
      rintro e w5 ⟨A5, rfl, z5, b5⟩
      go_wp2_with fail
      obtain ⟨f1, f2, f3⟩ := fl_stop l n hln hn2
      refine (dDo_at 300 (-1) n false A5 1 1 (cdZs 300 [] (stopZ l)) 5 0 none 0 0 [] _ _ _ _ _ w5 z5 f1 (Sl.nil _) (by decide) (by decide) rfl rfl f2 rfl f3).mono ?_
      rintro e w6 ⟨A6, rfl, z6, b6⟩
      have B6 := (Bx.under b5).under b6
      have bb6 := (bb.trans (b5.mono bb.size)).trans (b6.mono (Nat.le_trans bb.size b5.size))
      skip
      obtain ⟨r0, r1, r2, r3, r4, _⟩ := B6.five
      have hkl := B6.lt
      obtain ⟨gb, o, z, Ai, ci, rfl, hF, hg, hz, c0', c1', c2', c3', hS, hA⟩ := zx.at_ (show 0 < 1 by decide)
      obtain rfl : z = ⟨if l.length = 0 then 0 else 1, 0, 0, l⟩ := (Option.some.inj hz).symm
      have c2 := (b6.cell (Nat.lt_of_lt_of_le hg b5.size)).trans ((b5.cell hg).trans c2')
      simp only [Nat.zero_mul, Nat.add_zero] at c2
      have hln2 : (l.length : Int) = n := by omega
      have hgl : gb < w6.heap.size := Nat.lt_of_lt_of_le (Nat.lt_of_lt_of_le hg b5.size) b6.size
      clear c0' c1' c2' c3' hz
      go_wp2
      go_ret
      exact ⟨rfl, bb6.alloc bb6.size _⟩
end Go.Proofs.Ytnjekhnheihooaa
