/-
  ChangeKinds: the walk (written by gen_changekinds.py).
-/
import Derived.Test.YtbhohjbgbachhaaChArgs
import Derived.Test.YtbhohjbgbachhaaRef7h
import Derived.Deep.Cut
namespace Go.Proofs.Ytbhohjbgbachhaa
open Go.RowKit Go.Wag
set_option linter.unusedVariables false
set_option linter.unusedSimpArgs false
set_option maxRecDepth 100000 in
set_option maxHeartbeats 8000000 in
theorem chKinds_core (k la n i : Int) (Ad : Option Addr) (md cd : Nat) (Al : Option Addr) (ml cl : Nat) (d : List UInt8) (xs : List Xp) (kind : Int) (w : World) (hla0 : la ≤ 9223372036854775807) (hla : ∀ x ∈ xs, x.la ≤ 9223372036854775807) (hS : Sl w Ad md cd (d.map v8)) (hR : Rs extE (fun b => b < w.heap.size) w Al ml cl xs) :
    Calls Try.prog 8 #[.agg #[.int .i64 k, .int .i64 la, .int .i64 n, .int .i64 i, .slice Ad md cd, .slice Al ml cl], .int .i64 kind] w (AwakePost w) := by
  have hla' := Lib.hid hla
  have hmd : d.length = md := hS.len8
  have bb := Below.refl w.heap.size w
  have S := hS
  have R := hR
  clear hS hR hla
  go_enter Try.func8, Try.ntmps8
  replace S := S.alloc (.cells #[.int .i64 k, .int .i64 la, .int .i64 n, .int .i64 i, .slice Ad md cd, .slice Al ml cl] 37)
  replace R := R.alloc (.cells #[.int .i64 k, .int .i64 la, .int .i64 n, .int .i64 i, .slice Ad md cd, .slice Al ml cl] 37)
  replace bb := bb.alloc bb.size (.cells #[.int .i64 k, .int .i64 la, .int .i64 n, .int .i64 i, .slice Ad md cd, .slice Al ml cl] 37)
  have X := Blk.new w #[.int .i64 k, .int .i64 la, .int .i64 n, .int .i64 i, .slice Ad md cd, .slice Al ml cl] 37
  go_wp2_with fail
  generalize (w.alloc (.cells #[.int .i64 k, .int .i64 la, .int .i64 n, .int .i64 i, .slice Ad md cd, .slice Al ml cl] 37)) = wa at *
  have hC := awake10_any wa
  refine hC.mono ?_
  clear hC
  rintro e w1 ⟨rfl, b1⟩
  replace S := S.below b1
  replace R := R.below b1
  replace X := X.under b1
  replace bb := bb.trans (b1.mono bb.size)
  obtain ⟨Xq0, Xq1, Xq2, Xq3, Xq4, Xq5, Xr0, Xr1, Xr2, Xr3, Xr4, Xr5⟩ := X.six
  have Xl := X.lt
  go_wp2_with fail
  clear Xq0 Xq1 Xq2 Xq3 Xq4 Xq5 Xr0 Xr1 Xr2 Xr3 Xr4 Xr5
  have hC := few10_any k la n i Ad md cd Al ml cl xs w1 R
  refine hC.mono ?_
  clear hC
  rintro e w2 ⟨r, rfl, hr, b2⟩
  replace S := S.below b2
  replace R := R.below b2
  replace X := X.under b2
  replace bb := bb.trans (b2.mono bb.size)
  clear hr
  cases r
  · skip
    go_wp2
    go_ret
    exact ⟨rfl, bb⟩
  obtain ⟨ck, hck⟩ : ∃ x, cchk k la n i md xs = x := ⟨_, rfl⟩
  have hK1 := fun W r => chCheck_any (F := fun b => b < w.heap.size) k la n i Ad md cd Al ml cl xs W r hla0 hla'.out
  simp only [hck] at hK1
  replace hck := Lib.hid hck
  obtain ⟨Xq0, Xq1, Xq2, Xq3, Xq4, Xq5, Xr0, Xr1, Xr2, Xr3, Xr4, Xr5⟩ := X.six
  have Xl := X.lt
  go_wp2_with fail
  clear Xq0 Xq1 Xq2 Xq3 Xq4 Xq5 Xr0 Xr1 Xr2 Xr3 Xr4 Xr5
  have hC := hK1 w2 R
  refine hC.mono ?_
  clear hC
  rintro e w3 ⟨rfl, b3⟩
  replace S := S.below b3
  replace R := R.below b3
  replace X := X.under b3
  replace bb := bb.trans (b3.mono bb.size)
  clear hK1
  obtain ⟨Xq0, Xq1, Xq2, Xq3, Xq4, Xq5, Xr0, Xr1, Xr2, Xr3, Xr4, Xr5⟩ := X.six
  have Xl := X.lt
  cases ck
  · skip
    go_wp2
    go_ret
    exact ⟨rfl, bb⟩
  by_cases hkk : kind = k
  · have hkk2 : (kind == k) = true := by simpa using hkk
    replace hkk := Lib.hid hkk
    go_wp2
    go_ret
    exact ⟨rfl, bb⟩
  have hkk2 : (kind == k) = false := by simpa using hkk
  replace hkk := Lib.hid hkk
  go_upto_region 5 with (fail)
  clear Xq0 Xq1 Xq2 Xq3 Xq4 Xq5 Xr0 Xr1 Xr2 Xr3 Xr4 Xr5
  have hxl := X.lt
  have hwl := bb.size
  have V := Blk.new w3 #[.int .i64 k, .int .i64 la, .int .i64 n, .int .i64 i, .slice Ad md cd, .slice Al ml cl] 37
  have hneS : 0 < md → ∀ ad, Ad = some ad → ad.block ≠ w3.heap.size := fun h0 ad e => by obtain ⟨ad', e', hb, _⟩ := S.cells h0; cases e.symm.trans e'; omega
  replace X := X.alloc (.cells #[.int .i64 k, .int .i64 la, .int .i64 n, .int .i64 i, .slice Ad md cd, .slice Al ml cl] 37)
  replace S := S.alloc (.cells #[.int .i64 k, .int .i64 la, .int .i64 n, .int .i64 i, .slice Ad md cd, .slice Al ml cl] 37)
  replace R := R.alloc (.cells #[.int .i64 k, .int .i64 la, .int .i64 n, .int .i64 i, .slice Ad md cd, .slice Al ml cl] 37)
  replace bb := bb.alloc bb.size (.cells #[.int .i64 k, .int .i64 la, .int .i64 n, .int .i64 i, .slice Ad md cd, .slice Al ml cl] 37)
  generalize w3.alloc (.cells #[.int .i64 k, .int .i64 la, .int .i64 n, .int .i64 i, .slice Ad md cd, .slice Al ml cl] 37) = w4 at *
  obtain ⟨kv, hkv⟩ : ∃ x, w3.heap.size = x := ⟨_, rfl⟩
  simp only [hkv] at V hneS hwl hxl ⊢
  clear hkv
  obtain ⟨q0, q1, q2, q3, q4, q5, i0', i1', i2', i3', i4', i5'⟩ := V.six
  go_upto_region 6 with (fail)
  clear q0 q1 q2 q3 q4 q5 i0' i1' i2' i3' i4' i5'
  have V2 := V.set 0 (.int .i64 kind)
  simp only [List.setIfInBounds_toArray, List.set_cons_zero, List.set_cons_succ] at V2
  replace X := X.far (a := ⟨kv, 0, none⟩) (show w.heap.size ≠ kv by omega) (.int .i64 kind)
  replace S := S.farz (a := ⟨kv, 0, none⟩) hneS (.int .i64 kind)
  replace R := R.far (a := ⟨kv, 0, none⟩) (show ¬ kv < w.heap.size by omega) (.int .i64 kind)
  replace bb := bb.setCell (p := ⟨kv, 0, none⟩) hwl (.int .i64 kind)
  clear V hneS
  generalize w4.setCell ⟨kv, 0, none⟩ (.int .i64 kind) = w5 at *
  have hcw : cwr ⟨k, la, n, i, d, xs⟩ = some (cenc ⟨k, la, n, i, d, xs⟩) := cwr_yes (by show cchk k la n i d.length xs = true; rw [hmd]; exact hck.out)
  obtain ⟨bx, hbx⟩ : ∃ x, cenc ⟨k, la, n, i, d, xs⟩ = x := ⟨_, rfl⟩
  rw [hbx] at hcw
  have hW1 := fun W s r => BytesErr.ok (chWrite_any (F := fun b => b < w.heap.size) k la n i Ad md cd Al ml cl d xs W s r hla0 hla'.out) hcw
  obtain ⟨c2, hc2⟩ : ∃ x, cchk kind la n i md xs = x := ⟨_, rfl⟩
  have hK2 := fun W r => chCheck_any (F := fun b => b < w.heap.size) kind la n i Ad md cd Al ml cl xs W r hla0 hla'.out
  simp only [hc2] at hK2
  have hW2 := fun W s r => chWrite_any (F := fun b => b < w.heap.size) kind la n i Ad md cd Al ml cl d xs W s r hla0 hla'.out
  obtain ⟨Xq0, Xq1, Xq2, Xq3, Xq4, Xq5, Xr0, Xr1, Xr2, Xr3, Xr4, Xr5⟩ := X.six
  have Xl := X.lt
  go_wp2_with fail
  clear Xq0 Xq1 Xq2 Xq3 Xq4 Xq5 Xr0 Xr1 Xr2 Xr3 Xr4 Xr5
  have hC := hW1 w5 S R
  refine hC.mono ?_
  clear hC
  rintro e w6 ⟨A3, m3, c3, rfl, T1, _, b4⟩
  replace S := S.below b4
  replace R := R.below b4
  replace X := X.under b4
  replace V2 := V2.under b4
  replace bb := bb.trans (b4.mono bb.size)
  clear hW1
  cases c2
  · have hr2 : cwr ⟨kind, la, n, i, d, xs⟩ = none := cwr_no (by show ¬ cchk kind la n i d.length xs = true; rw [hmd, hc2]; simp)
    replace hc2 := Lib.hid hc2
    replace hbx := Lib.hid hbx
    replace hcw := Lib.hid hcw
    obtain ⟨V2q0, V2q1, V2q2, V2q3, V2q4, V2q5, V2r0, V2r1, V2r2, V2r3, V2r4, V2r5⟩ := V2.six
    have V2l := V2.lt
    go_wp2_with fail
    clear V2q0 V2q1 V2q2 V2q3 V2q4 V2q5 V2r0 V2r1 V2r2 V2r3 V2r4 V2r5
    have hC := BytesErr.no (hW2 w6 S R) hr2
    refine hC.mono ?_
    clear hC
    rintro e w7 ⟨A4, m4, c4, rfl, T2, _, b5⟩
    replace S := S.below b5
    replace R := R.below b5
    replace X := X.under b5
    replace V2 := V2.under b5
    replace T1 := T1.below b5
    replace bb := bb.trans (b5.mono bb.size)
    clear hW2
    replace hr2 := Lib.hid hr2
    obtain ⟨V2q0, V2q1, V2q2, V2q3, V2q4, V2q5, V2r0, V2r1, V2r2, V2r3, V2r4, V2r5⟩ := V2.six
    have V2l := V2.lt
    have e1 := str_of T1
    have e2 := str_of T2
    go_wp2_with fail
    clear V2q0 V2q1 V2q2 V2q3 V2q4 V2q5 V2r0 V2r1 V2r2 V2r3 V2r4 V2r5
    clear e1 e2
    have hC := hK2 w7 R
    refine hC.mono ?_
    clear hC
    rintro e w8 ⟨rfl, b6⟩
    replace S := S.below b6
    replace R := R.below b6
    replace X := X.under b6
    replace V2 := V2.under b6
    replace T1 := T1.below b6
    replace T2 := T2.below b6
    replace bb := bb.trans (b6.mono bb.size)
    clear hK2
    go_wp2
    all_goals go_ret
    all_goals exact ⟨rfl, bb⟩
  · have hok2 : (Ch.mk kind la n i d xs).ok = true := by show cchk kind la n i d.length xs = true; rw [hmd, hc2]
    have hr2 : cwr ⟨kind, la, n, i, d, xs⟩ = some (cenc ⟨kind, la, n, i, d, xs⟩) := cwr_yes hok2
    obtain ⟨b2_, hb2⟩ : ∃ x, cenc ⟨kind, la, n, i, d, xs⟩ = x := ⟨_, rfl⟩
    rw [hb2] at hr2
    have hne := cwr_kind (c := ⟨k, la, n, i, d, xs⟩) (k := kind) hkk.out hcw hr2
    have hn2 : (bx == b2_) = false := by simpa using hne
    have hn1 := str_ne7 hne
    have hkr := cchk_all hc2
    have hg1 : kind ≥ 1 := hkr.1
    have hg8 : kind ≤ 8 := hkr.2.1
    clear hkr
    replace hc2 := Lib.hid hc2
    replace hbx := Lib.hid hbx
    replace hb2 := Lib.hid hb2
    replace hcw := Lib.hid hcw
    replace hne := Lib.hid hne
    replace hok2 := Lib.hid hok2
    obtain ⟨V2q0, V2q1, V2q2, V2q3, V2q4, V2q5, V2r0, V2r1, V2r2, V2r3, V2r4, V2r5⟩ := V2.six
    have V2l := V2.lt
    go_wp2_with fail
    clear V2q0 V2q1 V2q2 V2q3 V2q4 V2q5 V2r0 V2r1 V2r2 V2r3 V2r4 V2r5
    have hC := BytesErr.ok (hW2 w6 S R) hr2
    refine hC.mono ?_
    clear hC
    rintro e w7 ⟨A4, m4, c4, rfl, T2, _, b5⟩
    replace S := S.below b5
    replace R := R.below b5
    replace X := X.under b5
    replace V2 := V2.under b5
    replace T1 := T1.below b5
    replace bb := bb.trans (b5.mono bb.size)
    clear hW2
    replace hr2 := Lib.hid hr2
    obtain ⟨V2q0, V2q1, V2q2, V2q3, V2q4, V2q5, V2r0, V2r1, V2r2, V2r3, V2r4, V2r5⟩ := V2.six
    have V2l := V2.lt
    have e1 := str_of T1
    have e2 := str_of T2
    go_wp2_with fail
    clear V2q0 V2q1 V2q2 V2q3 V2q4 V2q5 V2r0 V2r1 V2r2 V2r3 V2r4 V2r5
    clear e1 e2
    have hC := hK2 w7 R
    refine hC.mono ?_
    clear hC
    rintro e w8 ⟨rfl, b6⟩
    replace S := S.below b6
    replace R := R.below b6
    replace X := X.under b6
    replace V2 := V2.under b6
    replace T1 := T1.below b6
    replace T2 := T2.below b6
    replace bb := bb.trans (b6.mono bb.size)
    clear hK2
    go_wp2
    go_ret
    exact ⟨rfl, bb⟩
theorem ChangeKinds_walk (a0_0 : Int) (a0_1 : Int) (a0_2 : Int) (a0_3 : Int) (a0_4 : Option Addr) (len0_4 cap0_4 : Nat) (z0_4 : List Int) (a0_5 : Option Addr) (len0_5 cap0_5 : Nat) (a1 : Int) (w : World) (w0_0 : (Lit.int .i64 a0_0).wf = true) (w0_1 : (Lit.int .i64 a0_1).wf = true) (w0_2 : (Lit.int .i64 a0_2).wf = true) (w0_3 : (Lit.int .i64 a0_3).wf = true) (w0_4 : IsRow .u8 w a0_4 len0_4 cap0_4 z0_4) (w0_5 : IsSts [.num .i64, .num .i64, .num .i64, .num .i64, .row .u8] w a0_5 len0_5 cap0_5) (w1 : (Lit.int .i64 a1).wf = true) :
    Calls Try.prog 8 #[.agg #[.int .i64 a0_0, .int .i64 a0_1, .int .i64 a0_2, .int .i64 a0_3, .slice a0_4 len0_4 cap0_4, .slice a0_5 len0_5 cap0_5], .int .i64 a1] w (AwakePost w) := by
  obtain ⟨d, S⟩ := w0_4.bytes
  obtain ⟨xs, hla, R⟩ := exts_of_sts w0_5
  exact chKinds_core a0_0 a0_1 a0_2 a0_3 a0_4 len0_4 cap0_4 a0_5 len0_5 cap0_5 d xs a1 w (ext_wf w0_1) hla S R
end Go.Proofs.Ytbhohjbgbachhaa
