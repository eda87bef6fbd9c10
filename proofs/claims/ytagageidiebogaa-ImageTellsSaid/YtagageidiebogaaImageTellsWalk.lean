/-
  ImageTells: the walk (written by gen_imtells.py).
-/
import Derived.Test.YtagageidiebogaaImC
import Derived.Test.YtagageidiebogaaImE
import Derived.Test.YtagageidiebogaaImD
import Derived.Test.YtagageidiebogaaExtFew
import Derived.Test.YtagageidiebogaaArgs
namespace Go.Proofs.Ytagageidiebogaa
open Go.RowKit Go.Wag
set_option linter.unusedVariables false
set_option linter.unusedSimpArgs false
set_option maxRecDepth 100000 in
set_option maxHeartbeats 16000000 in
theorem imTells_core {G G2 G3 : Nat → Prop} (xs ys : List Cp) (A : Option Addr) (n c : Nat) (Ak : Option Addr) (nk ck : Nat) (b : Int) (ms : List Xp) (Am : Option Addr) (nm cm : Nat) (w : World) (h : Rs cpE G w A n c xs) (hy : Rs cpE G3 w Ak nk ck ys) (hm : Rs extE G2 w Am nm cm ms) (hla : ∀ x ∈ ms, x.la ≤ 9223372036854775807) :
    Calls Try.prog 3 #[.slice A n c, .slice Ak nk ck, .int .i64 b, .slice Am nm cm] w (AwakePost w) := by
  have hcap := h.cap
  have hbig := h.big
  have hcapk := hy.cap
  have hbigk := hy.big
  have bb := Below.refl w.heap.size w
  go_enter Try.func3, Try.ntmps3
  go_wp2_with fail
  have hC := awake9_any w
  refine hC.mono ?_
  clear hC
  rintro e w1 ⟨rfl, b1⟩
  replace h := h.below b1
  replace hm := hm.below b1
  replace hy := hy.below b1
  replace bb := bb.trans (b1.mono bb.size)
  by_cases h1 : (n : Int) > 100
  · go_wp2
    go_ret
    exact ⟨rfl, bb⟩
  by_cases h2 : (nk : Int) > 100
  · go_wp2
    go_ret
    exact ⟨rfl, bb⟩
  go_wp2_with fail
  refine (few_any ms Am nm cm w1 hm).mono ?_
  rintro e w2 ⟨fr, rfl, hfew, rfl⟩
  cases fr
  · go_wp2
    go_ret
    exact ⟨rfl, bb⟩
  have hn70 := (hfew rfl).1
  clear hfew
  obtain ⟨C, hC⟩ : ∃ C, (if mapB b ms = true then iof ms else []) = C := ⟨_, rfl⟩
  obtain ⟨ea, hea⟩ : ∃ e : Int, (if mapB b ms = true then 0 else 80) = e := ⟨_, rfl⟩
  obtain ⟨D, hD⟩ : ∃ D, (if ichk xs = true then imap xs else []) = D := ⟨_, rfl⟩
  obtain ⟨eb, heb⟩ : ∃ e : Int, (if ichk xs = true then 0 else 90) = e := ⟨_, rfl⟩
  replace hC := Lib.hid hC
  replace hea := Lib.hid hea
  replace hD := Lib.hid hD
  replace heb := Lib.hid heb
  have hC0 := CErr.at (iOf_any b ms Am nm cm w1 hm hla (by omega)) hC.out hea.out
  go_wp2_with fail
  have hC := hC0
  refine hC.mono ?_
  clear hC
  rintro e w3 ⟨AP, nP, cP, hP, rfl, RP, b3⟩
  replace h := h.below b3
  replace hm := hm.below b3
  replace hy := hy.below b3
  replace bb := bb.trans (b3.mono bb.size)
  clear hC0
  have hC0 := CErr.at (fOf9_any b ms Am nm cm w3 hm (by omega)) hC.out hea.out
  go_wp2_with fail
  have hC := hC0
  refine hC.mono ?_
  clear hC
  rintro e w4 ⟨AQ, nQ, cQ, hQ, rfl, RQ, b4⟩
  replace h := h.below b4
  replace hm := hm.below b4
  replace hy := hy.below b4
  replace RP := RP.below b4
  replace bb := bb.trans (b4.mono bb.size)
  clear hC0
  obtain rfl : nP = nQ := hP.out.symm.trans hQ.out
  clear hP hQ
  have hC0 := LErr.at (iMap_any xs A n c w4 h) hD.out heb.out
  go_wp2_with fail
  have hC := hC0
  refine hC.mono ?_
  clear hC
  rintro e w5 ⟨AU, nU, cU, hU, rfl, RU, b5⟩
  replace h := h.below b5
  replace hm := hm.below b5
  replace hy := hy.below b5
  replace RP := RP.below b5
  replace RQ := RQ.below b5
  replace bb := bb.trans (b5.mono bb.size)
  clear hC0
  have hC0 := LErr.at (fMap9_any xs A n c w5 h) hD.out heb.out
  go_wp2_with fail
  have hC := hC0
  refine hC.mono ?_
  clear hC
  rintro e w6 ⟨AV, nV, cV, hV, rfl, RV, b6⟩
  replace h := h.below b6
  replace hm := hm.below b6
  replace hy := hy.below b6
  replace RP := RP.below b6
  replace RQ := RQ.below b6
  replace RU := RU.below b6
  replace bb := bb.trans (b6.mono bb.size)
  clear hC0
  obtain rfl : nU = nV := hU.out.symm.trans hV.out
  clear hU hV
  have hC0 := cSame_any C AP nP cP AQ cQ w6 RP RQ
  go_wp2_with fail
  have hC := hC0
  refine hC.mono ?_
  clear hC
  rintro e w7 ⟨rfl, b7⟩
  replace h := h.below b7
  replace hm := hm.below b7
  replace hy := hy.below b7
  replace RP := RP.below b7
  replace RQ := RQ.below b7
  replace RU := RU.below b7
  replace RV := RV.below b7
  replace bb := bb.trans (b7.mono bb.size)
  clear hC0
  have hC0 := fAll_any D AU nU cU AV cV w7 RU RV
  go_wp2_with fail
  have hC := hC0
  refine hC.mono ?_
  clear hC
  rintro e w8 ⟨rfl, b8⟩
  replace h := h.below b8
  replace hm := hm.below b8
  replace hy := hy.below b8
  replace RP := RP.below b8
  replace RQ := RQ.below b8
  replace RU := RU.below b8
  replace RV := RV.below b8
  replace bb := bb.trans (b8.mono bb.size)
  clear hC0
  clear RP RQ RU RV hC hea hD heb
  obtain ⟨kk, hkk⟩ : ∃ x, ichk xs = x := ⟨_, rfl⟩
  obtain ⟨al, hal⟩ : ∃ x, alikeF xs ys = x := ⟨_, rfl⟩
  have hC0 := iCheck_any xs A n c w8 h
  rw [hkk] at hC0
  go_wp2_with fail
  have hC := hC0
  refine hC.mono ?_
  clear hC
  rintro e w9 ⟨rfl, b9⟩
  replace h := h.below b9
  replace hm := hm.below b9
  replace hy := hy.below b9
  replace bb := bb.trans (b9.mono bb.size)
  clear hC0
  have hC0 := fCk9_any xs A n c w9 h
  rw [hkk] at hC0
  replace hkk := Lib.hid hkk
  go_wp2_with fail
  have hC := hC0
  refine hC.mono ?_
  clear hC
  rintro e w10 ⟨rfl, b10⟩
  replace h := h.below b10
  replace hm := hm.below b10
  replace hy := hy.below b10
  replace bb := bb.trans (b10.mono bb.size)
  clear hC0
  have hC0 := iAlike_any xs ys A n c Ak nk ck w10 h hy
  rw [hal] at hC0
  go_wp2_with fail
  have hC := hC0
  refine hC.mono ?_
  clear hC
  rintro e w11 ⟨rfl, b11⟩
  replace h := h.below b11
  replace hm := hm.below b11
  replace hy := hy.below b11
  replace bb := bb.trans (b11.mono bb.size)
  clear hC0
  have hC0 := fAlike9_any xs ys A n c Ak nk ck w11 h hy
  rw [hal] at hC0
  replace hal := Lib.hid hal
  go_wp2_with fail
  have hC := hC0
  refine hC.mono ?_
  clear hC
  rintro e w12 ⟨rfl, b12⟩
  replace h := h.below b12
  replace hm := hm.below b12
  replace hy := hy.below b12
  replace bb := bb.trans (b12.mono bb.size)
  clear hC0
  go_wp2
  go_ret
  exact ⟨rfl, bb⟩
theorem ImageTells_walk (a0 : Option Addr) (len0 cap0 : Nat) (a1 : Option Addr) (len1 cap1 : Nat) (a2 : Int) (a3 : Option Addr) (len3 cap3 : Nat) (w : World) (w0 : IsSts [.num .i64, .num .i64, .num .u8, .num .u8, .num .u8, .num .u8, .num .u8, .num .u8, .num .u8, .num .u8, .num .u8, .num .u8, .num .u8, .num .u8, .num .u8, .num .u8, .num .u8, .num .u8, .num .u8, .num .u8, .num .u8, .num .u8, .num .u8, .num .u8, .num .u8, .num .u8, .num .u8, .num .u8, .num .u8, .num .u8, .num .u8, .num .u8, .num .u8, .num .u8] w a0 len0 cap0) (w1 : IsSts [.num .i64, .num .i64, .num .u8, .num .u8, .num .u8, .num .u8, .num .u8, .num .u8, .num .u8, .num .u8, .num .u8, .num .u8, .num .u8, .num .u8, .num .u8, .num .u8, .num .u8, .num .u8, .num .u8, .num .u8, .num .u8, .num .u8, .num .u8, .num .u8, .num .u8, .num .u8, .num .u8, .num .u8, .num .u8, .num .u8, .num .u8, .num .u8, .num .u8, .num .u8] w a1 len1 cap1) (w2 : (Lit.int .i64 a2).wf = true) (w3 : IsSts [.num .i64, .num .i64, .num .i64, .num .i64, .row .u8] w a3 len3 cap3) :
    Calls Try.prog 3 #[.slice a0 len0 cap0, .slice a1 len1 cap1, .int .i64 a2, .slice a3 len3 cap3] w (AwakePost w) := by
  obtain ⟨xs, h⟩ := cells_of_sts w0
  obtain ⟨ys, hy⟩ := cells_of_sts w1
  obtain ⟨ms, hla, h2⟩ := exts_of_sts w3
  exact imTells_core xs ys a0 len0 cap0 a1 len1 cap1 a2 ms a3 len3 cap3 w h hy h2 hla
end Go.Proofs.Ytagageidiebogaa
