/-
  ImageBack: the walk (written by gen_imback.py).
-/
import Derived.Test.YtepaojegcaapfaaImC
import Derived.Test.YtepaojegcaapfaaImBack0
import Derived.Test.YtepaojegcaapfaaExtFew
import Derived.Test.YtepaojegcaapfaaArgs
namespace Go.Wag
open Go.RowKit
set_option linter.unusedVariables false
def putL (b : Int) (ms : List Xp) (z : Xp) : List Xp := if mapB b ms = false then [] else if mfit b z = true then mput b ms z else ms
def putE (b : Int) (ms : List Xp) (z : Xp) : Int := if mapB b ms = false then 80 else if mfit b z = true then 0 else 81
theorem mapB_nil (b : Int) : mapB b [] = false := by
  cases h : mapB b []
  · rfl
  · obtain ⟨h1, _, h3, _⟩ := (mapB_iff _ _).1 h
    cases h3
    omega
theorem mapB_la {b : Int} {l : List Xp} (h : mapB b l = true) : ∀ x ∈ l, x.la ≤ 9223372036854775807 := by
  obtain ⟨_, _, h3, _⟩ := (mapB_iff _ _).1 h
  intro x hx
  have := Xp.all (mrun_ok h3 x hx)
  omega
/-- Of a map: what ImageBack finds. -/
theorem ib_yes {b : Int} {ms : List Xp} (h : mapB b ms = true) (lba n g : Int) : ∃ (C X : List Cp) (Y : List Xp) (er : Int) (nb : Nat), C.length = nb ∧ nb ≤ 64 ∧ X.length = nb ∧ ((if mapB b ms = true then iof ms else []) = C ∧ (if mapB b ms = true then 0 else 80 : Int) = 0) ∧
    ((if ichk C = true then imap C else []) = ms ∧ (if ichk C = true then 0 else 90 : Int) = 0) ∧ (doneL C (fillMay C lba n 1 g) (fillR C lba n 1 g) = X ∧ doneE C (fillMay C lba n 1 g) = er) ∧ ((if ichk X = true then imap X else []) = Y ∧ (if ichk X = true then 0 else 90 : Int) = 0) ∧ (putL b ms (zpx lba n g) = Y ∧ putE b ms (zpx lba n g) = er) := by
  obtain ⟨c1, c2, c3⟩ := iof_chk h
  obtain ⟨h1, h2, _, _⟩ := (mapB_iff _ _).1 h
  have hf := fill_put h lba n g
  cases hx : fillMay (iof ms) lba n 1 g
  · rw [hx] at hf
    refine ⟨iof ms, iof ms, ms, 81, (iof ms).length, rfl, by omega, rfl, ⟨if_pos h, if_pos h⟩, ⟨(if_pos c1).trans (imap_iof h), if_pos c1⟩, ⟨doneL_may c1 hx, doneE_may c1 hx⟩, ⟨(if_pos c1).trans (imap_iof h), if_pos c1⟩, ?_, ?_⟩
    · rw [putL, h, ← hf]
      simp
    · rw [putE, h, ← hf]
      simp
  · rw [hx] at hf
    obtain ⟨d1, d2, d3⟩ := fill_map h hx
    refine ⟨iof ms, fillR (iof ms) lba n 1 g, mput b ms (zpx lba n g), 0, (iof ms).length, rfl, by omega, d3, ⟨if_pos h, if_pos h⟩, ⟨(if_pos c1).trans (imap_iof h), if_pos c1⟩, ⟨doneL_yes c1 hx, doneE_yes c1 hx⟩, ⟨(if_pos d1).trans d2, if_pos d1⟩, ?_, ?_⟩
    · rw [putL, h, ← hf]
      simp
    · rw [putE, h, ← hf]
      simp
theorem ib_no1 {b : Int} {ms : List Xp} (h : mapB b ms = false) : (if mapB b ms = true then iof ms else []) = [] ∧ (if mapB b ms = true then 0 else 80 : Int) = 80 := by rw [h]; exact ⟨rfl, rfl⟩
theorem ib_no2 {b : Int} {ms : List Xp} (h : mapB b ms = false) (z : Xp) : putL b ms z = [] ∧ putE b ms z = 80 := by rw [putL, putE, h]; exact ⟨rfl, rfl⟩
theorem ichk_nil : ichk [] = false := rfl
end Go.Wag
namespace Go.Proofs.Ytepaojegcaapfaa
open Go.RowKit Go.Wag
set_option linter.unusedVariables false
set_option linter.unusedSimpArgs false
theorem mPut_z {F : Nat → Prop} (b : Int) (xs : List Xp) (A : Option Addr) (n c : Nat) (lba nn g : Int) (w : World) (h : Rs extE F w A n c xs) (hla : ∀ x ∈ xs, x.la ≤ 9223372036854775807) (hn : n ≤ 1000000000) (hlb : lba ≤ 9223372036854775807) :
    Calls Try.prog 21 #[.int .i64 b, .slice A n c, .agg #[.int .i64 lba, .int .i64 nn, .int .i64 1, .int .i64 g, .slice none 0 0]] w (LErr w (putL b xs (zpx lba nn g)) (putE b xs (zpx lba nn g))) := by
  have := mPut_any b xs A n c (zpx lba nn g) none 0 0 w h hla hn rfl (Sl.nil _) hlb
  unfold putL putE
  by_cases h1 : mapB b xs = false
  · rw [if_pos h1] at this
    rw [if_pos h1, if_pos h1]
    exact this
  · rw [if_neg h1] at this
    rw [if_neg h1, if_neg h1]
    by_cases h2 : mfit b (zpx lba nn g) = true
    · rw [if_pos h2] at this
      rw [if_pos h2, if_pos h2]
      exact this
    · rw [if_neg h2] at this
      rw [if_neg h2, if_neg h2]
      exact this
set_option maxRecDepth 100000 in
set_option maxHeartbeats 16000000 in
theorem imBack_core {G G2 : Nat → Prop} (xs : List Cp) (A : Option Addr) (n c : Nat) (b : Int) (ms : List Xp) (Am : Option Addr) (nm cm : Nat) (lba nn g : Int) (w : World) (h : Rs cpE G w A n c xs) (hm : Rs extE G2 w Am nm cm ms) (hla : ∀ x ∈ ms, x.la ≤ 9223372036854775807) (hlb : lba ≤ 9223372036854775807) :
    Calls Try.prog 8 #[.slice A n c, .int .i64 b, .slice Am nm cm, .int .i64 lba, .int .i64 nn, .int .i64 g] w (AwakePost w) := by
  have HN : Hid (xs.length = n) := h.len
  have HM : Hid (ms.length = nm) := hm.len
  have hwfs := Lib.hid h.wfs
  have hcap := h.cap
  have hbig := h.big
  have bb := Below.refl w.heap.size w
  go_enter Try.func8, Try.ntmps8
  go_wp2_with fail
  have hC := awake9_any w
  refine hC.mono ?_
  clear hC
  rintro e w1 ⟨rfl, b1⟩
  replace h := h.below b1
  replace hm := hm.below b1
  replace bb := bb.trans (b1.mono bb.size)
  by_cases h1 : (n : Int) > 100
  · go_wp2
    go_ret
    exact ⟨rfl, bb⟩
  go_wp2_with fail
  refine (few_any ms Am nm cm w1 hm).mono ?_
  rintro e w2 ⟨fr, rfl, hfew, rfl⟩
  cases fr
  · go_wp2
    go_ret
    exact ⟨rfl, bb⟩
  have hn70 := (hfew rfl).1
  clear hfew
  cases hx : ichk xs
  · skip
    have hC0 := LErr.at (iMap_any xs A n c w1 h) (if_neg (by rw [hx]; decide)) (if_neg (by rw [hx]; decide))
    go_wp2_with fail
    have hC := hC0
    refine hC.mono ?_
    clear hC
    rintro e w3 ⟨A1, n1, c1, h1, rfl, R1, b3⟩
    replace h := h.below b3
    replace hm := hm.below b3
    replace bb := bb.trans (b3.mono bb.size)
    clear hC0
    obtain rfl : 0 = n1 := h1.out
    have hC0 := CErr.at (iOf_any (n : Int) [] A1 0 c1 w3 R1 (fun x hx => absurd hx (by simp)) (by omega)) (ib_no1 (mapB_nil _)).1 (ib_no1 (mapB_nil _)).2
    go_wp2_with fail
    have hC := hC0
    refine hC.mono ?_
    clear hC
    rintro e w4 ⟨A2, n2, c2, h2, rfl, R2, b4⟩
    replace h := h.below b4
    replace hm := hm.below b4
    replace R1 := R1.below b4
    replace bb := bb.trans (b4.mono bb.size)
    clear hC0
    obtain rfl : 0 = n2 := h2.out
    have hC0 := iCheck_any xs A n c w4 h
    rw [hx] at hC0
    go_wp2_with fail
    have hC := hC0
    refine hC.mono ?_
    clear hC
    rintro e w5 ⟨rfl, b5⟩
    replace h := h.below b5
    replace hm := hm.below b5
    replace R1 := R1.below b5
    replace R2 := R2.below b5
    replace bb := bb.trans (b5.mono bb.size)
    clear hC0
    cases hmm : mapB b ms
    · obtain ⟨f1, g1⟩ := ib_no1 hmm
      have hC0 := CErr.at (iOf_any b ms Am nm cm w5 hm hla (by omega)) f1 g1
      go_wp2_with fail
      have hC := hC0
      refine hC.mono ?_
      clear hC
      rintro e w6 ⟨AC, nC, cC, hC, rfl, RC, b6⟩
      replace h := h.below b6
      replace hm := hm.below b6
      replace R1 := R1.below b6
      replace R2 := R2.below b6
      replace bb := bb.trans (b6.mono bb.size)
      clear hC0
      obtain rfl : 0 = nC := hC.out
      have hC0 := LErr.at (iMap_any [] AC 0 cC w6 RC) (if_neg (by rw [ichk_nil]; decide)) (if_neg (by rw [ichk_nil]; decide))
      go_wp2_with fail
      have hC := hC0
      refine hC.mono ?_
      clear hC
      rintro e w7 ⟨AD, nD, cD, hD, rfl, RD, b7⟩
      replace h := h.below b7
      replace hm := hm.below b7
      replace R1 := R1.below b7
      replace R2 := R2.below b7
      replace RC := RC.below b7
      replace bb := bb.trans (b7.mono bb.size)
      clear hC0
      obtain rfl : 0 = nD := hD.out
      have hC0 := mCheck_any b ms Am nm cm w7 hm hla (by omega)
      rw [hmm] at hC0
      go_wp2_with fail
      have hC := hC0
      refine hC.mono ?_
      clear hC
      rintro e w8 ⟨rfl, b8⟩
      replace h := h.below b8
      replace hm := hm.below b8
      replace R1 := R1.below b8
      replace R2 := R2.below b8
      replace RC := RC.below b8
      replace RD := RD.below b8
      replace bb := bb.trans (b8.mono bb.size)
      clear hC0
      have hC0 := CErr.at (iFill_any [] AC 0 cC lba nn 1 g w8 RC (by omega) hlb) (doneL_chk ichk_nil) (doneE_chk ichk_nil)
      go_wp2_with fail
      have hC := hC0
      refine hC.mono ?_
      clear hC
      rintro e w9 ⟨AX, nX, cX, hX, rfl, RX, b9⟩
      replace h := h.below b9
      replace hm := hm.below b9
      replace R1 := R1.below b9
      replace R2 := R2.below b9
      replace RC := RC.below b9
      replace RD := RD.below b9
      replace bb := bb.trans (b9.mono bb.size)
      clear hC0
      obtain rfl : 0 = nX := hX.out
      have hC0 := LErr.at (mPut_z b ms Am nm cm lba nn g w9 hm hla (by omega) hlb) (ib_no2 hmm _).1 (ib_no2 hmm _).2
      go_wp2_with fail
      have hC := hC0
      refine hC.mono ?_
      clear hC
      rintro e w10 ⟨AY, nY, cY, hY, rfl, RY, b10⟩
      replace h := h.below b10
      replace hm := hm.below b10
      replace R1 := R1.below b10
      replace R2 := R2.below b10
      replace RC := RC.below b10
      replace RD := RD.below b10
      replace RX := RX.below b10
      replace bb := bb.trans (b10.mono bb.size)
      clear hC0
      obtain rfl : 0 = nY := hY.out
      have hC0 := LErr.at (iMap_any [] AX 0 cX w10 RX) (if_neg (by rw [ichk_nil]; decide)) (if_neg (by rw [ichk_nil]; decide))
      go_wp2_with fail
      have hC := hC0
      refine hC.mono ?_
      clear hC
      rintro e w11 ⟨AZ, nZ, cZ, hZ, rfl, RZ, b11⟩
      replace h := h.below b11
      replace hm := hm.below b11
      replace R1 := R1.below b11
      replace R2 := R2.below b11
      replace RC := RC.below b11
      replace RD := RD.below b11
      replace RX := RX.below b11
      replace RY := RY.below b11
      replace bb := bb.trans (b11.mono bb.size)
      clear hC0
      obtain rfl : 0 = nZ := hZ.out
      go_wp2
      go_ret
      exact ⟨rfl, bb⟩
    obtain ⟨C, X, Y, er, nb, lC, hnb, lX, ⟨f1, g1⟩, ⟨f2, g2⟩, ⟨f3, g3⟩, ⟨f4, g4⟩, ⟨f5, g5⟩⟩ := ib_yes hmm lba nn g
    clear hmm
    replace f1 := Lib.hid f1
    replace g1 := Lib.hid g1
    replace f2 := Lib.hid f2
    replace g2 := Lib.hid g2
    replace f3 := Lib.hid f3
    replace g3 := Lib.hid g3
    replace f4 := Lib.hid f4
    replace g4 := Lib.hid g4
    replace f5 := Lib.hid f5
    replace g5 := Lib.hid g5
    replace lC := Lib.hid lC
    replace lX := Lib.hid lX
    have hC0 := CErr.at (iOf_any b ms Am nm cm w5 hm hla (by omega)) f1.out g1.out
    go_wp2_with fail
    have hC := hC0
    refine hC.mono ?_
    clear hC
    rintro e w12 ⟨AC, nC, cC, hC, rfl, RC, b12⟩
    replace h := h.below b12
    replace hm := hm.below b12
    replace R1 := R1.below b12
    replace R2 := R2.below b12
    replace bb := bb.trans (b12.mono bb.size)
    clear hC0
    obtain rfl : nb = nC := lC.out.symm.trans hC.out
    clear hC
    have hC0 := LErr.at (iMap_any C AC nb cC w12 RC) f2.out g2.out
    go_wp2_with fail
    have hC := hC0
    refine hC.mono ?_
    clear hC
    rintro e w13 ⟨AD, nD, cD, hD, rfl, RD, b13⟩
    replace h := h.below b13
    replace hm := hm.below b13
    replace R1 := R1.below b13
    replace R2 := R2.below b13
    replace RC := RC.below b13
    replace bb := bb.trans (b13.mono bb.size)
    clear hC0
    obtain rfl : nm = nD := HM.out.symm.trans hD.out
    clear hD
    have hC0 := fAll_any ms AD nm cD Am cm w13 RD hm
    go_wp2_with fail
    have hC := hC0
    refine hC.mono ?_
    clear hC
    rintro e w14 ⟨rfl, b14⟩
    replace h := h.below b14
    replace hm := hm.below b14
    replace R1 := R1.below b14
    replace R2 := R2.below b14
    replace RC := RC.below b14
    replace RD := RD.below b14
    replace bb := bb.trans (b14.mono bb.size)
    clear hC0
    have hC0 := CErr.at (iFill_any C AC nb cC lba nn 1 g w14 RC (by omega) hlb) f3.out g3.out
    go_wp2_with fail
    have hC := hC0
    refine hC.mono ?_
    clear hC
    rintro e w15 ⟨AX, nX, cX, hX, rfl, RX, b15⟩
    replace h := h.below b15
    replace hm := hm.below b15
    replace R1 := R1.below b15
    replace R2 := R2.below b15
    replace RC := RC.below b15
    replace RD := RD.below b15
    replace bb := bb.trans (b15.mono bb.size)
    clear hC0
    obtain rfl : nb = nX := lX.out.symm.trans hX.out
    clear hX
    have hC0 := LErr.at (mPut_z b ms Am nm cm lba nn g w15 hm hla (by omega) hlb) f5.out g5.out
    go_wp2_with fail
    have hC := hC0
    refine hC.mono ?_
    clear hC
    rintro e w16 ⟨AY, nY, cY, hY, rfl, RY, b16⟩
    replace h := h.below b16
    replace hm := hm.below b16
    replace R1 := R1.below b16
    replace R2 := R2.below b16
    replace RC := RC.below b16
    replace RD := RD.below b16
    replace RX := RX.below b16
    replace bb := bb.trans (b16.mono bb.size)
    clear hC0
    have hC0 := LErr.at (iMap_any X AX nb cX w16 RX) f4.out g4.out
    go_wp2_with fail
    have hC := hC0
    refine hC.mono ?_
    clear hC
    rintro e w17 ⟨AZ, nZ, cZ, hZ, rfl, RZ, b17⟩
    replace h := h.below b17
    replace hm := hm.below b17
    replace R1 := R1.below b17
    replace R2 := R2.below b17
    replace RC := RC.below b17
    replace RD := RD.below b17
    replace RX := RX.below b17
    replace RY := RY.below b17
    replace bb := bb.trans (b17.mono bb.size)
    clear hC0
    obtain rfl : nY = nZ := hY.out.symm.trans hZ.out
    clear hZ
    have her : (er == er) = true := by simp
    have hC0 := fAll_any Y AY nY cY AZ cZ w17 RY RZ
    go_wp2_with fail
    have hC := hC0
    refine hC.mono ?_
    clear hC
    rintro e w18 ⟨rfl, b18⟩
    replace h := h.below b18
    replace hm := hm.below b18
    replace R1 := R1.below b18
    replace R2 := R2.below b18
    replace RC := RC.below b18
    replace RD := RD.below b18
    replace RX := RX.below b18
    replace RY := RY.below b18
    replace RZ := RZ.below b18
    replace bb := bb.trans (b18.mono bb.size)
    clear hC0
    go_wp2
    go_ret
    exact ⟨rfl, bb⟩
  · skip
    obtain ⟨p1, p2, p3, p4⟩ : imap xs = imap xs ∧ mapB (n : Int) (imap xs) = true ∧ iof (imap xs) = xs ∧ (imap xs).length ≤ n := by
      have hw : ∀ c ∈ xs, c.d.length = 32 := fun c hc => (hwfs.out c hc).len
      have e := imap_map hw hx
      have e2 := imap_len xs
      rw [HN.out] at e e2
      exact ⟨rfl, e, iof_imap hw hx, e2⟩
    obtain ⟨L, hL⟩ : ∃ L, imap xs = L := ⟨_, rfl⟩
    rw [hL] at p2 p3 p4
    have hLa := mapB_la p2
    clear p1
    replace p2 := Lib.hid p2
    replace p3 := Lib.hid p3
    replace hL := Lib.hid hL
    replace hLa := Lib.hid hLa
    have hC0 := LErr.at (iMap_any xs A n c w1 h) ((if_pos hx).trans hL.out) (if_pos hx)
    go_wp2_with fail
    have hC := hC0
    refine hC.mono ?_
    clear hC
    rintro e w19 ⟨A1, n1, c1, h1, rfl, R1, b19⟩
    replace h := h.below b19
    replace hm := hm.below b19
    replace bb := bb.trans (b19.mono bb.size)
    clear hC0
    have h1n : n1 ≤ n := by rw [← h1.out]; exact p4
    clear p4
    have hC0 := CErr.at (iOf_any (n : Int) L A1 n1 c1 w19 R1 hLa.out (by omega)) ((if_pos p2.out).trans p3.out) (if_pos p2.out)
    go_wp2_with fail
    have hC := hC0
    refine hC.mono ?_
    clear hC
    rintro e w20 ⟨A2, n2, c2, h2, rfl, R2, b20⟩
    replace h := h.below b20
    replace hm := hm.below b20
    replace R1 := R1.below b20
    replace bb := bb.trans (b20.mono bb.size)
    clear hC0
    obtain rfl : n = n2 := HN.out.symm.trans h2.out
    clear h2
    have hC0 := cSame_any xs A2 n c2 A c w20 R2 h
    go_wp2_with fail
    have hC := hC0
    refine hC.mono ?_
    clear hC
    rintro e w21 ⟨rfl, b21⟩
    replace h := h.below b21
    replace hm := hm.below b21
    replace R1 := R1.below b21
    replace R2 := R2.below b21
    replace bb := bb.trans (b21.mono bb.size)
    clear hC0
    have hC0 := mCheck_any (n : Int) L A1 n1 c1 w21 R1 hLa.out (by omega)
    rw [p2.out] at hC0
    go_wp2_with fail
    have hC := hC0
    refine hC.mono ?_
    clear hC
    rintro e w22 ⟨rfl, b22⟩
    replace h := h.below b22
    replace hm := hm.below b22
    replace R1 := R1.below b22
    replace R2 := R2.below b22
    replace bb := bb.trans (b22.mono bb.size)
    clear hC0
    cases hmm : mapB b ms
    · obtain ⟨f1, g1⟩ := ib_no1 hmm
      have hC0 := CErr.at (iOf_any b ms Am nm cm w22 hm hla (by omega)) f1 g1
      go_wp2_with fail
      have hC := hC0
      refine hC.mono ?_
      clear hC
      rintro e w23 ⟨AC, nC, cC, hC, rfl, RC, b23⟩
      replace h := h.below b23
      replace hm := hm.below b23
      replace R1 := R1.below b23
      replace R2 := R2.below b23
      replace bb := bb.trans (b23.mono bb.size)
      clear hC0
      obtain rfl : 0 = nC := hC.out
      have hC0 := LErr.at (iMap_any [] AC 0 cC w23 RC) (if_neg (by rw [ichk_nil]; decide)) (if_neg (by rw [ichk_nil]; decide))
      go_wp2_with fail
      have hC := hC0
      refine hC.mono ?_
      clear hC
      rintro e w24 ⟨AD, nD, cD, hD, rfl, RD, b24⟩
      replace h := h.below b24
      replace hm := hm.below b24
      replace R1 := R1.below b24
      replace R2 := R2.below b24
      replace RC := RC.below b24
      replace bb := bb.trans (b24.mono bb.size)
      clear hC0
      obtain rfl : 0 = nD := hD.out
      have hC0 := mCheck_any b ms Am nm cm w24 hm hla (by omega)
      rw [hmm] at hC0
      go_wp2_with fail
      have hC := hC0
      refine hC.mono ?_
      clear hC
      rintro e w25 ⟨rfl, b25⟩
      replace h := h.below b25
      replace hm := hm.below b25
      replace R1 := R1.below b25
      replace R2 := R2.below b25
      replace RC := RC.below b25
      replace RD := RD.below b25
      replace bb := bb.trans (b25.mono bb.size)
      clear hC0
      have hC0 := CErr.at (iFill_any [] AC 0 cC lba nn 1 g w25 RC (by omega) hlb) (doneL_chk ichk_nil) (doneE_chk ichk_nil)
      go_wp2_with fail
      have hC := hC0
      refine hC.mono ?_
      clear hC
      rintro e w26 ⟨AX, nX, cX, hX, rfl, RX, b26⟩
      replace h := h.below b26
      replace hm := hm.below b26
      replace R1 := R1.below b26
      replace R2 := R2.below b26
      replace RC := RC.below b26
      replace RD := RD.below b26
      replace bb := bb.trans (b26.mono bb.size)
      clear hC0
      obtain rfl : 0 = nX := hX.out
      have hC0 := LErr.at (mPut_z b ms Am nm cm lba nn g w26 hm hla (by omega) hlb) (ib_no2 hmm _).1 (ib_no2 hmm _).2
      go_wp2_with fail
      have hC := hC0
      refine hC.mono ?_
      clear hC
      rintro e w27 ⟨AY, nY, cY, hY, rfl, RY, b27⟩
      replace h := h.below b27
      replace hm := hm.below b27
      replace R1 := R1.below b27
      replace R2 := R2.below b27
      replace RC := RC.below b27
      replace RD := RD.below b27
      replace RX := RX.below b27
      replace bb := bb.trans (b27.mono bb.size)
      clear hC0
      obtain rfl : 0 = nY := hY.out
      have hC0 := LErr.at (iMap_any [] AX 0 cX w27 RX) (if_neg (by rw [ichk_nil]; decide)) (if_neg (by rw [ichk_nil]; decide))
      go_wp2_with fail
      have hC := hC0
      refine hC.mono ?_
      clear hC
      rintro e w28 ⟨AZ, nZ, cZ, hZ, rfl, RZ, b28⟩
      replace h := h.below b28
      replace hm := hm.below b28
      replace R1 := R1.below b28
      replace R2 := R2.below b28
      replace RC := RC.below b28
      replace RD := RD.below b28
      replace RX := RX.below b28
      replace RY := RY.below b28
      replace bb := bb.trans (b28.mono bb.size)
      clear hC0
      obtain rfl : 0 = nZ := hZ.out
      go_wp2
      go_ret
      exact ⟨rfl, bb⟩
    obtain ⟨C, X, Y, er, nb, lC, hnb, lX, ⟨f1, g1⟩, ⟨f2, g2⟩, ⟨f3, g3⟩, ⟨f4, g4⟩, ⟨f5, g5⟩⟩ := ib_yes hmm lba nn g
    clear hmm
    replace f1 := Lib.hid f1
    replace g1 := Lib.hid g1
    replace f2 := Lib.hid f2
    replace g2 := Lib.hid g2
    replace f3 := Lib.hid f3
    replace g3 := Lib.hid g3
    replace f4 := Lib.hid f4
    replace g4 := Lib.hid g4
    replace f5 := Lib.hid f5
    replace g5 := Lib.hid g5
    replace lC := Lib.hid lC
    replace lX := Lib.hid lX
    have hC0 := CErr.at (iOf_any b ms Am nm cm w22 hm hla (by omega)) f1.out g1.out
    go_wp2_with fail
    have hC := hC0
    refine hC.mono ?_
    clear hC
    rintro e w29 ⟨AC, nC, cC, hC, rfl, RC, b29⟩
    replace h := h.below b29
    replace hm := hm.below b29
    replace R1 := R1.below b29
    replace R2 := R2.below b29
    replace bb := bb.trans (b29.mono bb.size)
    clear hC0
    obtain rfl : nb = nC := lC.out.symm.trans hC.out
    clear hC
    have hC0 := LErr.at (iMap_any C AC nb cC w29 RC) f2.out g2.out
    go_wp2_with fail
    have hC := hC0
    refine hC.mono ?_
    clear hC
    rintro e w30 ⟨AD, nD, cD, hD, rfl, RD, b30⟩
    replace h := h.below b30
    replace hm := hm.below b30
    replace R1 := R1.below b30
    replace R2 := R2.below b30
    replace RC := RC.below b30
    replace bb := bb.trans (b30.mono bb.size)
    clear hC0
    obtain rfl : nm = nD := HM.out.symm.trans hD.out
    clear hD
    have hC0 := fAll_any ms AD nm cD Am cm w30 RD hm
    go_wp2_with fail
    have hC := hC0
    refine hC.mono ?_
    clear hC
    rintro e w31 ⟨rfl, b31⟩
    replace h := h.below b31
    replace hm := hm.below b31
    replace R1 := R1.below b31
    replace R2 := R2.below b31
    replace RC := RC.below b31
    replace RD := RD.below b31
    replace bb := bb.trans (b31.mono bb.size)
    clear hC0
    have hC0 := CErr.at (iFill_any C AC nb cC lba nn 1 g w31 RC (by omega) hlb) f3.out g3.out
    go_wp2_with fail
    have hC := hC0
    refine hC.mono ?_
    clear hC
    rintro e w32 ⟨AX, nX, cX, hX, rfl, RX, b32⟩
    replace h := h.below b32
    replace hm := hm.below b32
    replace R1 := R1.below b32
    replace R2 := R2.below b32
    replace RC := RC.below b32
    replace RD := RD.below b32
    replace bb := bb.trans (b32.mono bb.size)
    clear hC0
    obtain rfl : nb = nX := lX.out.symm.trans hX.out
    clear hX
    have hC0 := LErr.at (mPut_z b ms Am nm cm lba nn g w32 hm hla (by omega) hlb) f5.out g5.out
    go_wp2_with fail
    have hC := hC0
    refine hC.mono ?_
    clear hC
    rintro e w33 ⟨AY, nY, cY, hY, rfl, RY, b33⟩
    replace h := h.below b33
    replace hm := hm.below b33
    replace R1 := R1.below b33
    replace R2 := R2.below b33
    replace RC := RC.below b33
    replace RD := RD.below b33
    replace RX := RX.below b33
    replace bb := bb.trans (b33.mono bb.size)
    clear hC0
    have hC0 := LErr.at (iMap_any X AX nb cX w33 RX) f4.out g4.out
    go_wp2_with fail
    have hC := hC0
    refine hC.mono ?_
    clear hC
    rintro e w34 ⟨AZ, nZ, cZ, hZ, rfl, RZ, b34⟩
    replace h := h.below b34
    replace hm := hm.below b34
    replace R1 := R1.below b34
    replace R2 := R2.below b34
    replace RC := RC.below b34
    replace RD := RD.below b34
    replace RX := RX.below b34
    replace RY := RY.below b34
    replace bb := bb.trans (b34.mono bb.size)
    clear hC0
    obtain rfl : nY = nZ := hY.out.symm.trans hZ.out
    clear hZ
    have her : (er == er) = true := by simp
    have hC0 := fAll_any Y AY nY cY AZ cZ w34 RY RZ
    go_wp2_with fail
    have hC := hC0
    refine hC.mono ?_
    clear hC
    rintro e w35 ⟨rfl, b35⟩
    replace h := h.below b35
    replace hm := hm.below b35
    replace R1 := R1.below b35
    replace R2 := R2.below b35
    replace RC := RC.below b35
    replace RD := RD.below b35
    replace RX := RX.below b35
    replace RY := RY.below b35
    replace RZ := RZ.below b35
    replace bb := bb.trans (b35.mono bb.size)
    clear hC0
    go_wp2
    go_ret
    exact ⟨rfl, bb⟩
theorem ImageBack_walk (a0 : Option Addr) (len0 cap0 : Nat) (a1 : Int) (a2 : Option Addr) (len2 cap2 : Nat) (a3 : Int) (a4 : Int) (a5 : Int) (w : World) (w0 : IsSts [.num .i64, .num .i64, .num .u8, .num .u8, .num .u8, .num .u8, .num .u8, .num .u8, .num .u8, .num .u8, .num .u8, .num .u8, .num .u8, .num .u8, .num .u8, .num .u8, .num .u8, .num .u8, .num .u8, .num .u8, .num .u8, .num .u8, .num .u8, .num .u8, .num .u8, .num .u8, .num .u8, .num .u8, .num .u8, .num .u8, .num .u8, .num .u8, .num .u8, .num .u8] w a0 len0 cap0) (w1 : (Lit.int .i64 a1).wf = true) (w2 : IsSts [.num .i64, .num .i64, .num .i64, .num .i64, .row .u8] w a2 len2 cap2) (w3 : (Lit.int .i64 a3).wf = true) (w4 : (Lit.int .i64 a4).wf = true) (w5 : (Lit.int .i64 a5).wf = true) :
    Calls Try.prog 8 #[.slice a0 len0 cap0, .int .i64 a1, .slice a2 len2 cap2, .int .i64 a3, .int .i64 a4, .int .i64 a5] w (AwakePost w) := by
  obtain ⟨xs, h⟩ := cells_of_sts w0
  obtain ⟨ms, hla, h2⟩ := exts_of_sts w2
  exact imBack_core xs a0 len0 cap0 a1 ms a2 len2 cap2 a3 a4 a5 w h h2 hla (ext_wf w3)
end Go.Proofs.Ytepaojegcaapfaa
