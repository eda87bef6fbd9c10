/-
  ChangeBack: the walk (written by gen_changeback.py).
-/
import Derived.Test.YtbhohjbgbachhaaChArgs
import Derived.Test.YtbhohjbgbachhaaRef7h
import Derived.Deep.Cut
namespace Go.Proofs.Ytbhohjbgbachhaa
open Go.RowKit Go.Wag
set_option linter.unusedVariables false
set_option linter.unusedSimpArgs false
set_option maxRecDepth 100000 in
set_option maxHeartbeats 8000000 in
theorem chBack_core (k la n i : Int) (Ad : Option Addr) (md cd : Nat) (Al : Option Addr) (ml cl : Nat) (d : List UInt8) (xs : List Xp) (Ab : Option Addr) (mb cb : Nat) (b : List UInt8) (w : World) (hla0 : la ≤ 9223372036854775807) (hla : ∀ x ∈ xs, x.la ≤ 9223372036854775807) (hS : Sl w Ad md cd (d.map v8)) (hR : Rs extE (fun b => b < w.heap.size) w Al ml cl xs) (hB : Sl w Ab mb cb (b.map v8)) :
    Calls Try.prog 6 #[.agg #[.int .i64 k, .int .i64 la, .int .i64 n, .int .i64 i, .slice Ad md cd, .slice Al ml cl], .slice Ab mb cb] w (AwakePost w) := by
  have hl := Lib.hid hla
  have hmd : d.length = md := hS.len8
  have hcapb := hB.cap
  have hbigb := hB.big
  have bb := Below.refl w.heap.size w
  have S := hS
  have R := hR
  have B := hB
  clear hS hR hB hla
  go_enter Try.func6, Try.ntmps6
  replace S := S.alloc (.cells #[.int .i64 k, .int .i64 la, .int .i64 n, .int .i64 i, .slice Ad md cd, .slice Al ml cl] 37)
  replace R := R.alloc (.cells #[.int .i64 k, .int .i64 la, .int .i64 n, .int .i64 i, .slice Ad md cd, .slice Al ml cl] 37)
  replace B := B.alloc (.cells #[.int .i64 k, .int .i64 la, .int .i64 n, .int .i64 i, .slice Ad md cd, .slice Al ml cl] 37)
  replace bb := bb.alloc bb.size (.cells #[.int .i64 k, .int .i64 la, .int .i64 n, .int .i64 i, .slice Ad md cd, .slice Al ml cl] 37)
  have X := Blk.new w #[.int .i64 k, .int .i64 la, .int .i64 n, .int .i64 i, .slice Ad md cd, .slice Al ml cl] 37
  go_wp2_with fail
  generalize (w.alloc (.cells #[.int .i64 k, .int .i64 la, .int .i64 n, .int .i64 i, .slice Ad md cd, .slice Al ml cl] 37)) = wa at *
  have hC := awake10_any wa
  refine hC.mono ?_
  clear hC
  rintro e w1 ⟨rfl, b1⟩
  replace S := S.below b1
  replace R := R.below b1
  replace B := B.below b1
  replace X := X.under b1
  replace bb := bb.trans (b1.mono bb.size)
  obtain ⟨Xq0, Xq1, Xq2, Xq3, Xq4, Xq5, Xr0, Xr1, Xr2, Xr3, Xr4, Xr5⟩ := X.six
  have Xl := X.lt
  go_wp2_with fail
  clear Xq0 Xq1 Xq2 Xq3 Xq4 Xq5 Xr0 Xr1 Xr2 Xr3 Xr4 Xr5
  have hC := few10_any k la n i Ad md cd Al ml cl xs w1 R
  refine hC.mono ?_
  clear hC
  rintro e w2 ⟨r, rfl, hr, b2⟩
  replace S := S.below b2
  replace R := R.below b2
  replace B := B.below b2
  replace X := X.under b2
  replace bb := bb.trans (b2.mono bb.size)
  clear hr
  cases r
  · skip
    go_wp2
    go_ret
    exact ⟨rfl, bb⟩
  by_cases h5 : (mb : Int) > 5000
  · skip
    go_wp2
    go_ret
    exact ⟨rfl, bb⟩
  have hW1 := fun W s r => chWrite_any (F := fun b => b < w.heap.size) k la n i Ad md cd Al ml cl d xs W s r hla0 hl.out
  have hK1 := fun W r => chCheck_any (F := fun b => b < w.heap.size) k la n i Ad md cd Al ml cl xs W r hla0 hl.out
  cases hc : cwr ⟨k, la, n, i, d, xs⟩ with
  | none =>
    have hck : cchk k la n i md xs = false := by
      cases hx : cchk k la n i md xs
      · rfl
      · have := cwr_yes (c := ⟨k, la, n, i, d, xs⟩) (by show cchk k la n i d.length xs = true; rw [hmd]; exact hx)
        rw [this] at hc
        cases hc
    simp only [hck] at hK1
    obtain ⟨Xq0, Xq1, Xq2, Xq3, Xq4, Xq5, Xr0, Xr1, Xr2, Xr3, Xr4, Xr5⟩ := X.six
    have Xl := X.lt
    go_wp2_with fail
    clear Xq0 Xq1 Xq2 Xq3 Xq4 Xq5 Xr0 Xr1 Xr2 Xr3 Xr4 Xr5
    have hC := BytesErr.no (hW1 w2 S R) hc
    refine hC.mono ?_
    clear hC
    rintro e w3 ⟨A3, m3, c3, rfl, T1, _, b3⟩
    replace S := S.below b3
    replace R := R.below b3
    replace B := B.below b3
    replace X := X.under b3
    replace bb := bb.trans (b3.mono bb.size)
    replace hc := Lib.hid hc
    replace hck := Lib.hid hck
    clear hW1
    obtain rfl : 0 = m3 := T1.len8
    go_wp2_with fail
    have hC := ChPost.none (chRead_any A3 0 c3 [] w3 T1 (by decide)) aw10_rd0
    refine hC.mono ?_
    clear hC
    rintro e w4 ⟨Ae, me, ce, Af, mf, cf, rfl, _, _, b4⟩
    replace S := S.below b4
    replace R := R.below b4
    replace B := B.below b4
    replace X := X.under b4
    replace T1 := T1.below b4
    replace bb := bb.trans (b4.mono bb.size)
    try dsimp only [ch0]
    obtain ⟨Xq0, Xq1, Xq2, Xq3, Xq4, Xq5, Xr0, Xr1, Xr2, Xr3, Xr4, Xr5⟩ := X.six
    have Xl := X.lt
    replace S := S.alloc (.cells #[.int .i64 0, .int .i64 0, .int .i64 0, .int .i64 0, .slice Ae me ce, .slice Af mf cf] 37)
    replace R := R.alloc (.cells #[.int .i64 0, .int .i64 0, .int .i64 0, .int .i64 0, .slice Ae me ce, .slice Af mf cf] 37)
    replace B := B.alloc (.cells #[.int .i64 0, .int .i64 0, .int .i64 0, .int .i64 0, .slice Ae me ce, .slice Af mf cf] 37)
    replace X := X.alloc (.cells #[.int .i64 0, .int .i64 0, .int .i64 0, .int .i64 0, .slice Ae me ce, .slice Af mf cf] 37)
    replace T1 := T1.alloc (.cells #[.int .i64 0, .int .i64 0, .int .i64 0, .int .i64 0, .slice Ae me ce, .slice Af mf cf] 37)
    replace bb := bb.alloc bb.size (.cells #[.int .i64 0, .int .i64 0, .int .i64 0, .int .i64 0, .slice Ae me ce, .slice Af mf cf] 37)
    have V1 := Blk.new w4 #[.int .i64 0, .int .i64 0, .int .i64 0, .int .i64 0, .slice Ae me ce, .slice Af mf cf] 37
    go_wp2_with fail
    clear Xq0 Xq1 Xq2 Xq3 Xq4 Xq5 Xr0 Xr1 Xr2 Xr3 Xr4 Xr5
    generalize (w4.alloc (.cells #[.int .i64 0, .int .i64 0, .int .i64 0, .int .i64 0, .slice Ae me ce, .slice Af mf cf] 37)) = w5 at *
    clear V1
    have hC := hK1 w5 R
    refine hC.mono ?_
    clear hC
    rintro e w6 ⟨rfl, b6⟩
    replace S := S.below b6
    replace R := R.below b6
    replace B := B.below b6
    replace X := X.under b6
    replace T1 := T1.below b6
    replace bb := bb.trans (b6.mono bb.size)
    clear hK1
    have hcb : ∀ x, crd b = some x → cchk x.k x.la x.n x.i x.d.length x.l = true := fun x e => crd_ok e
    cases hr : crd b with
    | none =>
      replace hcb := Lib.hid hcb
      go_wp2_with fail
      have hC := ChPost.none (chRead_any Ab mb cb b w6 B (by omega)) hr
      refine hC.mono ?_
      clear hC
      rintro e w8 ⟨Ag, mg, cg, Ah, mh, ch, rfl, Sg, Rh, b8⟩
      replace S := S.below b8
      replace R := R.below b8
      replace B := B.below b8
      replace X := X.under b8
      replace T1 := T1.below b8
      replace bb := bb.trans (b8.mono bb.size)
      replace hr := Lib.hid hr
      try dsimp only [ch0]
      try dsimp only [ch0] at Sg Rh
      replace S := S.alloc (.cells #[.int .i64 0, .int .i64 0, .int .i64 0, .int .i64 0, .slice Ag mg cg, .slice Ah mh ch] 37)
      replace R := R.alloc (.cells #[.int .i64 0, .int .i64 0, .int .i64 0, .int .i64 0, .slice Ag mg cg, .slice Ah mh ch] 37)
      replace B := B.alloc (.cells #[.int .i64 0, .int .i64 0, .int .i64 0, .int .i64 0, .slice Ag mg cg, .slice Ah mh ch] 37)
      replace X := X.alloc (.cells #[.int .i64 0, .int .i64 0, .int .i64 0, .int .i64 0, .slice Ag mg cg, .slice Ah mh ch] 37)
      replace T1 := T1.alloc (.cells #[.int .i64 0, .int .i64 0, .int .i64 0, .int .i64 0, .slice Ag mg cg, .slice Ah mh ch] 37)
      replace Sg := Sg.alloc (.cells #[.int .i64 0, .int .i64 0, .int .i64 0, .int .i64 0, .slice Ag mg cg, .slice Ah mh ch] 37)
      replace Rh := Rh.alloc (.cells #[.int .i64 0, .int .i64 0, .int .i64 0, .int .i64 0, .slice Ag mg cg, .slice Ah mh ch] 37)
      replace bb := bb.alloc bb.size (.cells #[.int .i64 0, .int .i64 0, .int .i64 0, .int .i64 0, .slice Ag mg cg, .slice Ah mh ch] 37)
      have V2 := Blk.new w8 #[.int .i64 0, .int .i64 0, .int .i64 0, .int .i64 0, .slice Ag mg cg, .slice Ah mh ch] 37
      obtain ⟨y0, y1, y2, y3, y4, y5, _⟩ := V2.six
      go_wp2_with fail
      generalize (w8.alloc (.cells #[.int .i64 0, .int .i64 0, .int .i64 0, .int .i64 0, .slice Ag mg cg, .slice Ah mh ch] 37)) = w9 at *
      clear y0 y1 y2 y3 y4 y5
      have hC := BytesErr.no (chWrite_any (F := fun _ => True) 0 0 0 0 Ag mg cg Ah mh ch [] [] w9 Sg Rh (by decide) (by intro x hx; cases hx)) aw10_wr0
      refine hC.mono ?_
      clear hC
      rintro e w10 ⟨Aj, mj, cj, rfl, _, _, b10⟩
      replace S := S.below b10
      replace R := R.below b10
      replace B := B.below b10
      replace X := X.under b10
      replace T1 := T1.below b10
      replace Sg := Sg.below b10
      replace Rh := Rh.below b10
      replace V2 := V2.under b10
      replace bb := bb.trans (b10.mono bb.size)
      obtain ⟨V2q0, V2q1, V2q2, V2q3, V2q4, V2q5, V2r0, V2r1, V2r2, V2r3, V2r4, V2r5⟩ := V2.six
      have V2l := V2.lt
      go_wp2
      go_ret
      exact ⟨rfl, bb⟩
    | some x =>
      have hcx := hcb x hr
      have hcw := cwr_rd hr
      have hlx : ∀ z ∈ x.l, z.la ≤ 9223372036854775807 := by
        intro z hz
        have hck2 := cchk_all hcx
        by_cases h8 : x.k = 8
        · have := Xp.all (xallok_all (clist_all x.l 0 (hck2.2.2.2.2.2.2.2.2.2.1 h8) (by omega)).1 z hz)
          omega
        · rw [hck2.2.2.2.2.2.2.2.2.2.2 h8] at hz
          cases hz
      have hxla : x.la ≤ 9223372036854775807 := by have := cchk_all hcx; omega
      have hxk : ¬ x.k = 0 := by have := cchk_all hcx; omega
      obtain ⟨xk, xla, xn, xi, xd, xl⟩ := x
      dsimp only at hcx hlx hxla hxk
      have hxk0 : (xk == 0) = false := by simpa using hxk
      replace hcb := Lib.hid hcb
      replace hlx := Lib.hid hlx
      replace hcx := Lib.hid hcx
      go_wp2_with fail
      have hC := ChPost.ok (chRead_any Ab mb cb b w6 B (by omega)) hr
      refine hC.mono ?_
      clear hC
      rintro e w8 ⟨Ag, mg, cg, Ah, mh, ch, rfl, Sg, Rh, b8⟩
      replace S := S.below b8
      replace R := R.below b8
      replace B := B.below b8
      replace X := X.under b8
      replace T1 := T1.below b8
      replace bb := bb.trans (b8.mono bb.size)
      replace hr := Lib.hid hr
      try dsimp only
      dsimp only at Sg Rh
      have hmg : xd.length = mg := Sg.len8
      replace S := S.alloc (.cells #[.int .i64 xk, .int .i64 xla, .int .i64 xn, .int .i64 xi, .slice Ag mg cg, .slice Ah mh ch] 37)
      replace R := R.alloc (.cells #[.int .i64 xk, .int .i64 xla, .int .i64 xn, .int .i64 xi, .slice Ag mg cg, .slice Ah mh ch] 37)
      replace B := B.alloc (.cells #[.int .i64 xk, .int .i64 xla, .int .i64 xn, .int .i64 xi, .slice Ag mg cg, .slice Ah mh ch] 37)
      replace X := X.alloc (.cells #[.int .i64 xk, .int .i64 xla, .int .i64 xn, .int .i64 xi, .slice Ag mg cg, .slice Ah mh ch] 37)
      replace T1 := T1.alloc (.cells #[.int .i64 xk, .int .i64 xla, .int .i64 xn, .int .i64 xi, .slice Ag mg cg, .slice Ah mh ch] 37)
      replace Sg := Sg.alloc (.cells #[.int .i64 xk, .int .i64 xla, .int .i64 xn, .int .i64 xi, .slice Ag mg cg, .slice Ah mh ch] 37)
      replace Rh := Rh.alloc (.cells #[.int .i64 xk, .int .i64 xla, .int .i64 xn, .int .i64 xi, .slice Ag mg cg, .slice Ah mh ch] 37)
      replace bb := bb.alloc bb.size (.cells #[.int .i64 xk, .int .i64 xla, .int .i64 xn, .int .i64 xi, .slice Ag mg cg, .slice Ah mh ch] 37)
      have V2 := Blk.new w8 #[.int .i64 xk, .int .i64 xla, .int .i64 xn, .int .i64 xi, .slice Ag mg cg, .slice Ah mh ch] 37
      obtain ⟨y0, y1, y2, y3, y4, y5, _⟩ := V2.six
      go_wp2_with fail
      generalize (w8.alloc (.cells #[.int .i64 xk, .int .i64 xla, .int .i64 xn, .int .i64 xi, .slice Ag mg cg, .slice Ah mh ch] 37)) = w9 at *
      clear y0 y1 y2 y3 y4 y5
      have hC := BytesErr.ok (chWrite_any (F := fun _ => True) xk xla xn xi Ag mg cg Ah mh ch xd xl w9 Sg Rh hxla hlx.out) hcw
      refine hC.mono ?_
      clear hC
      rintro e w10 ⟨Aj, mj, cj, rfl, Tj, _, b10⟩
      replace S := S.below b10
      replace R := R.below b10
      replace B := B.below b10
      replace X := X.under b10
      replace T1 := T1.below b10
      replace Sg := Sg.below b10
      replace Rh := Rh.below b10
      replace V2 := V2.under b10
      replace bb := bb.trans (b10.mono bb.size)
      replace hcw := Lib.hid hcw
      obtain ⟨V2q0, V2q1, V2q2, V2q3, V2q4, V2q5, V2r0, V2r1, V2r2, V2r3, V2r4, V2r5⟩ := V2.six
      have V2l := V2.lt
      go_wp2_with fail
      clear V2q0 V2q1 V2q2 V2q3 V2q4 V2q5 V2r0 V2r1 V2r2 V2r3 V2r4 V2r5
      have hC := chCheck_any (F := fun _ => True) xk xla xn xi Ag mg cg Ah mh ch xl w10 Rh hxla hlx.out
      rw [show cchk xk xla xn xi (mg : Int) xl = true by rw [← hmg]; exact hcx.out] at hC
      refine hC.mono ?_
      clear hC
      rintro e w11 ⟨rfl, b11⟩
      replace S := S.below b11
      replace R := R.below b11
      replace B := B.below b11
      replace X := X.under b11
      replace T1 := T1.below b11
      replace Sg := Sg.below b11
      replace Rh := Rh.below b11
      replace V2 := V2.under b11
      replace Tj := Tj.below b11
      replace bb := bb.trans (b11.mono bb.size)
      have e1 := str_of Tj
      have e2 := str_of B
      go_wp2
      go_ret
      exact ⟨rfl, bb⟩
  | some bx =>
    have hmx := cwr_max hc
    have hrd := crd_wr hc
    obtain ⟨Xq0, Xq1, Xq2, Xq3, Xq4, Xq5, Xr0, Xr1, Xr2, Xr3, Xr4, Xr5⟩ := X.six
    have Xl := X.lt
    go_wp2_with fail
    clear Xq0 Xq1 Xq2 Xq3 Xq4 Xq5 Xr0 Xr1 Xr2 Xr3 Xr4 Xr5
    have hC := BytesErr.ok (hW1 w2 S R) hc
    refine hC.mono ?_
    clear hC
    rintro e w3 ⟨A3, m3, c3, rfl, T1, _, b3⟩
    replace S := S.below b3
    replace R := R.below b3
    replace B := B.below b3
    replace X := X.under b3
    replace bb := bb.trans (b3.mono bb.size)
    replace hc := Lib.hid hc
    clear hW1 hK1
    have hlx3 : bx.length = m3 := T1.len8
    rw [hlx3] at hmx
    go_wp2_with fail
    have hC := ChPost.ok (chRead_any A3 m3 c3 bx w3 T1 (by omega)) hrd
    refine hC.mono ?_
    clear hC
    rintro e w4 ⟨Ae, me, ce, Af, mf, cf, rfl, Se, Rf, b4⟩
    replace S := S.below b4
    replace R := R.below b4
    replace B := B.below b4
    replace X := X.under b4
    replace T1 := T1.below b4
    replace bb := bb.trans (b4.mono bb.size)
    replace hrd := Lib.hid hrd
    try dsimp only
    dsimp only at Se Rf
    obtain ⟨Xq0, Xq1, Xq2, Xq3, Xq4, Xq5, Xr0, Xr1, Xr2, Xr3, Xr4, Xr5⟩ := X.six
    have Xl := X.lt
    replace S := S.alloc (.cells #[.int .i64 k, .int .i64 la, .int .i64 n, .int .i64 i, .slice Ae me ce, .slice Af mf cf] 37)
    replace R := R.alloc (.cells #[.int .i64 k, .int .i64 la, .int .i64 n, .int .i64 i, .slice Ae me ce, .slice Af mf cf] 37)
    replace B := B.alloc (.cells #[.int .i64 k, .int .i64 la, .int .i64 n, .int .i64 i, .slice Ae me ce, .slice Af mf cf] 37)
    replace X := X.alloc (.cells #[.int .i64 k, .int .i64 la, .int .i64 n, .int .i64 i, .slice Ae me ce, .slice Af mf cf] 37)
    replace T1 := T1.alloc (.cells #[.int .i64 k, .int .i64 la, .int .i64 n, .int .i64 i, .slice Ae me ce, .slice Af mf cf] 37)
    replace Se := Se.alloc (.cells #[.int .i64 k, .int .i64 la, .int .i64 n, .int .i64 i, .slice Ae me ce, .slice Af mf cf] 37)
    replace Rf := Rf.alloc (.cells #[.int .i64 k, .int .i64 la, .int .i64 n, .int .i64 i, .slice Ae me ce, .slice Af mf cf] 37)
    replace bb := bb.alloc bb.size (.cells #[.int .i64 k, .int .i64 la, .int .i64 n, .int .i64 i, .slice Ae me ce, .slice Af mf cf] 37)
    have V1 := Blk.new w4 #[.int .i64 k, .int .i64 la, .int .i64 n, .int .i64 i, .slice Ae me ce, .slice Af mf cf] 37
    obtain ⟨y0, y1, y2, y3, y4, y5, _⟩ := V1.six
    go_wp2_with fail
    clear Xq0 Xq1 Xq2 Xq3 Xq4 Xq5 Xr0 Xr1 Xr2 Xr3 Xr4 Xr5
    generalize (w4.alloc (.cells #[.int .i64 k, .int .i64 la, .int .i64 n, .int .i64 i, .slice Ae me ce, .slice Af mf cf] 37)) = w5 at *
    clear y0 y1 y2 y3 y4 y5
    have hC := gSame_any k la n i Ad md cd Al ml cl d xs k la n i Ae me ce Af mf cf d xs w5 S Se R Rf
    rw [csame_self] at hC
    refine hC.mono ?_
    clear hC
    rintro e w6 ⟨rfl, b6⟩
    replace S := S.below b6
    replace R := R.below b6
    replace B := B.below b6
    replace X := X.under b6
    replace T1 := T1.below b6
    replace Se := Se.below b6
    replace Rf := Rf.below b6
    replace V1 := V1.under b6
    replace bb := bb.trans (b6.mono bb.size)
    clear V1 Se Rf
    have hrs : chRszF (m3 : Int) = (m3 : Int) + 20 := by rw [chRszF, if_pos (by omega)]
    have hrs0 : ((m3 : Int) + 20 == 0) = false := by simp; omega
    have hw6 : ∃ x, x = w6 := ⟨_, rfl⟩
    clear hw6
    go_wp2_with fail
    refine (chRsz_any (m3 : Int) w6).mono ?_
    rintro e w7 ⟨rfl, rfl⟩
    rw [hrs]
    have hcb : ∀ x, crd b = some x → cchk x.k x.la x.n x.i x.d.length x.l = true := fun x e => crd_ok e
    cases hr : crd b with
    | none =>
      replace hcb := Lib.hid hcb
      go_wp2_with fail
      have hC := ChPost.none (chRead_any Ab mb cb b w6 B (by omega)) hr
      refine hC.mono ?_
      clear hC
      rintro e w8 ⟨Ag, mg, cg, Ah, mh, ch, rfl, Sg, Rh, b8⟩
      replace S := S.below b8
      replace R := R.below b8
      replace B := B.below b8
      replace X := X.under b8
      replace T1 := T1.below b8
      replace bb := bb.trans (b8.mono bb.size)
      replace hr := Lib.hid hr
      try dsimp only [ch0]
      try dsimp only [ch0] at Sg Rh
      replace S := S.alloc (.cells #[.int .i64 0, .int .i64 0, .int .i64 0, .int .i64 0, .slice Ag mg cg, .slice Ah mh ch] 37)
      replace R := R.alloc (.cells #[.int .i64 0, .int .i64 0, .int .i64 0, .int .i64 0, .slice Ag mg cg, .slice Ah mh ch] 37)
      replace B := B.alloc (.cells #[.int .i64 0, .int .i64 0, .int .i64 0, .int .i64 0, .slice Ag mg cg, .slice Ah mh ch] 37)
      replace X := X.alloc (.cells #[.int .i64 0, .int .i64 0, .int .i64 0, .int .i64 0, .slice Ag mg cg, .slice Ah mh ch] 37)
      replace T1 := T1.alloc (.cells #[.int .i64 0, .int .i64 0, .int .i64 0, .int .i64 0, .slice Ag mg cg, .slice Ah mh ch] 37)
      replace Sg := Sg.alloc (.cells #[.int .i64 0, .int .i64 0, .int .i64 0, .int .i64 0, .slice Ag mg cg, .slice Ah mh ch] 37)
      replace Rh := Rh.alloc (.cells #[.int .i64 0, .int .i64 0, .int .i64 0, .int .i64 0, .slice Ag mg cg, .slice Ah mh ch] 37)
      replace bb := bb.alloc bb.size (.cells #[.int .i64 0, .int .i64 0, .int .i64 0, .int .i64 0, .slice Ag mg cg, .slice Ah mh ch] 37)
      have V2 := Blk.new w8 #[.int .i64 0, .int .i64 0, .int .i64 0, .int .i64 0, .slice Ag mg cg, .slice Ah mh ch] 37
      obtain ⟨y0, y1, y2, y3, y4, y5, _⟩ := V2.six
      go_wp2_with fail
      generalize (w8.alloc (.cells #[.int .i64 0, .int .i64 0, .int .i64 0, .int .i64 0, .slice Ag mg cg, .slice Ah mh ch] 37)) = w9 at *
      clear y0 y1 y2 y3 y4 y5
      have hC := BytesErr.no (chWrite_any (F := fun _ => True) 0 0 0 0 Ag mg cg Ah mh ch [] [] w9 Sg Rh (by decide) (by intro x hx; cases hx)) aw10_wr0
      refine hC.mono ?_
      clear hC
      rintro e w10 ⟨Aj, mj, cj, rfl, _, _, b10⟩
      replace S := S.below b10
      replace R := R.below b10
      replace B := B.below b10
      replace X := X.under b10
      replace T1 := T1.below b10
      replace Sg := Sg.below b10
      replace Rh := Rh.below b10
      replace V2 := V2.under b10
      replace bb := bb.trans (b10.mono bb.size)
      obtain ⟨V2q0, V2q1, V2q2, V2q3, V2q4, V2q5, V2r0, V2r1, V2r2, V2r3, V2r4, V2r5⟩ := V2.six
      have V2l := V2.lt
      go_wp2
      go_ret
      exact ⟨rfl, bb⟩
    | some x =>
      have hcx := hcb x hr
      have hcw := cwr_rd hr
      have hlx : ∀ z ∈ x.l, z.la ≤ 9223372036854775807 := by
        intro z hz
        have hck2 := cchk_all hcx
        by_cases h8 : x.k = 8
        · have := Xp.all (xallok_all (clist_all x.l 0 (hck2.2.2.2.2.2.2.2.2.2.1 h8) (by omega)).1 z hz)
          omega
        · rw [hck2.2.2.2.2.2.2.2.2.2.2 h8] at hz
          cases hz
      have hxla : x.la ≤ 9223372036854775807 := by have := cchk_all hcx; omega
      have hxk : ¬ x.k = 0 := by have := cchk_all hcx; omega
      obtain ⟨xk, xla, xn, xi, xd, xl⟩ := x
      dsimp only at hcx hlx hxla hxk
      have hxk0 : (xk == 0) = false := by simpa using hxk
      replace hcb := Lib.hid hcb
      replace hlx := Lib.hid hlx
      replace hcx := Lib.hid hcx
      go_wp2_with fail
      have hC := ChPost.ok (chRead_any Ab mb cb b w6 B (by omega)) hr
      refine hC.mono ?_
      clear hC
      rintro e w8 ⟨Ag, mg, cg, Ah, mh, ch, rfl, Sg, Rh, b8⟩
      replace S := S.below b8
      replace R := R.below b8
      replace B := B.below b8
      replace X := X.under b8
      replace T1 := T1.below b8
      replace bb := bb.trans (b8.mono bb.size)
      replace hr := Lib.hid hr
      try dsimp only
      dsimp only at Sg Rh
      have hmg : xd.length = mg := Sg.len8
      replace S := S.alloc (.cells #[.int .i64 xk, .int .i64 xla, .int .i64 xn, .int .i64 xi, .slice Ag mg cg, .slice Ah mh ch] 37)
      replace R := R.alloc (.cells #[.int .i64 xk, .int .i64 xla, .int .i64 xn, .int .i64 xi, .slice Ag mg cg, .slice Ah mh ch] 37)
      replace B := B.alloc (.cells #[.int .i64 xk, .int .i64 xla, .int .i64 xn, .int .i64 xi, .slice Ag mg cg, .slice Ah mh ch] 37)
      replace X := X.alloc (.cells #[.int .i64 xk, .int .i64 xla, .int .i64 xn, .int .i64 xi, .slice Ag mg cg, .slice Ah mh ch] 37)
      replace T1 := T1.alloc (.cells #[.int .i64 xk, .int .i64 xla, .int .i64 xn, .int .i64 xi, .slice Ag mg cg, .slice Ah mh ch] 37)
      replace Sg := Sg.alloc (.cells #[.int .i64 xk, .int .i64 xla, .int .i64 xn, .int .i64 xi, .slice Ag mg cg, .slice Ah mh ch] 37)
      replace Rh := Rh.alloc (.cells #[.int .i64 xk, .int .i64 xla, .int .i64 xn, .int .i64 xi, .slice Ag mg cg, .slice Ah mh ch] 37)
      replace bb := bb.alloc bb.size (.cells #[.int .i64 xk, .int .i64 xla, .int .i64 xn, .int .i64 xi, .slice Ag mg cg, .slice Ah mh ch] 37)
      have V2 := Blk.new w8 #[.int .i64 xk, .int .i64 xla, .int .i64 xn, .int .i64 xi, .slice Ag mg cg, .slice Ah mh ch] 37
      obtain ⟨y0, y1, y2, y3, y4, y5, _⟩ := V2.six
      go_wp2_with fail
      generalize (w8.alloc (.cells #[.int .i64 xk, .int .i64 xla, .int .i64 xn, .int .i64 xi, .slice Ag mg cg, .slice Ah mh ch] 37)) = w9 at *
      clear y0 y1 y2 y3 y4 y5
      have hC := BytesErr.ok (chWrite_any (F := fun _ => True) xk xla xn xi Ag mg cg Ah mh ch xd xl w9 Sg Rh hxla hlx.out) hcw
      refine hC.mono ?_
      clear hC
      rintro e w10 ⟨Aj, mj, cj, rfl, Tj, _, b10⟩
      replace S := S.below b10
      replace R := R.below b10
      replace B := B.below b10
      replace X := X.under b10
      replace T1 := T1.below b10
      replace Sg := Sg.below b10
      replace Rh := Rh.below b10
      replace V2 := V2.under b10
      replace bb := bb.trans (b10.mono bb.size)
      replace hcw := Lib.hid hcw
      obtain ⟨V2q0, V2q1, V2q2, V2q3, V2q4, V2q5, V2r0, V2r1, V2r2, V2r3, V2r4, V2r5⟩ := V2.six
      have V2l := V2.lt
      go_wp2_with fail
      clear V2q0 V2q1 V2q2 V2q3 V2q4 V2q5 V2r0 V2r1 V2r2 V2r3 V2r4 V2r5
      have hC := chCheck_any (F := fun _ => True) xk xla xn xi Ag mg cg Ah mh ch xl w10 Rh hxla hlx.out
      rw [show cchk xk xla xn xi (mg : Int) xl = true by rw [← hmg]; exact hcx.out] at hC
      refine hC.mono ?_
      clear hC
      rintro e w11 ⟨rfl, b11⟩
      replace S := S.below b11
      replace R := R.below b11
      replace B := B.below b11
      replace X := X.under b11
      replace T1 := T1.below b11
      replace Sg := Sg.below b11
      replace Rh := Rh.below b11
      replace V2 := V2.under b11
      replace Tj := Tj.below b11
      replace bb := bb.trans (b11.mono bb.size)
      have e1 := str_of Tj
      have e2 := str_of B
      go_wp2
      go_ret
      exact ⟨rfl, bb⟩
theorem ChangeBack_walk (a0_0 : Int) (a0_1 : Int) (a0_2 : Int) (a0_3 : Int) (a0_4 : Option Addr) (len0_4 cap0_4 : Nat) (z0_4 : List Int) (a0_5 : Option Addr) (len0_5 cap0_5 : Nat) (a1 : Option Addr) (len1 cap1 : Nat) (z1 : List Int) (w : World) (w0_0 : (Lit.int .i64 a0_0).wf = true) (w0_1 : (Lit.int .i64 a0_1).wf = true) (w0_2 : (Lit.int .i64 a0_2).wf = true) (w0_3 : (Lit.int .i64 a0_3).wf = true) (w0_4 : IsRow .u8 w a0_4 len0_4 cap0_4 z0_4) (w0_5 : IsSts [.num .i64, .num .i64, .num .i64, .num .i64, .row .u8] w a0_5 len0_5 cap0_5) (w1 : IsRow .u8 w a1 len1 cap1 z1) :
    Calls Try.prog 6 #[.agg #[.int .i64 a0_0, .int .i64 a0_1, .int .i64 a0_2, .int .i64 a0_3, .slice a0_4 len0_4 cap0_4, .slice a0_5 len0_5 cap0_5], .slice a1 len1 cap1] w (AwakePost w) := by
  obtain ⟨d, S⟩ := w0_4.bytes
  obtain ⟨xs, hla, R⟩ := exts_of_sts w0_5
  obtain ⟨b, B⟩ := w1.bytes
  exact chBack_core a0_0 a0_1 a0_2 a0_3 a0_4 len0_4 cap0_4 a0_5 len0_5 cap0_5 d xs a1 len1 cap1 b w (ext_wf w0_1) hla S R B
end Go.Proofs.Ytbhohjbgbachhaa
