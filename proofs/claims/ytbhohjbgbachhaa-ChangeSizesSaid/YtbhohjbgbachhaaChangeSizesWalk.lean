/-
  ChangeSizes: the walk (written by gen_changesizes.py).
-/
import Derived.Test.YtbhohjbgbachhaaChArgs
import Derived.Test.YtbhohjbgbachhaaRef7h
import Derived.Deep.Cut
namespace Go.Wag
theorem xsum_take {xs : List Xp} {k : Nat} {x : Xp} (h : xs[k]? = some x) : xsum (xs.take (k + 1)) = xsum (xs.take k) + 7 + x.l.length := by
  obtain ⟨p, rfl⟩ := List.getElem?_eq_some_iff.1 h
  rw [List.take_succ_eq_append_getElem p, xsum_snoc]
theorem csz_step {md k s t x : Nat} (h : s ≤ 9 + md + 3007 * k) (h1 : t = s + 7 + x) (hb : ¬ (x : Int) > 3000) : t ≤ 9 + md + 3007 * (k + 1) := by omega
theorem cenc_size {c : Ch} : (cenc c).length = 9 + c.d.length + (if c.k = 8 then 1 + xsum c.l else 0) := by
  rw [cenc_length, ctail]
  split
  · rw [List.length_cons, xsum_len]
    omega
  · rfl
end Go.Wag
namespace Go.Proofs.Ytbhohjbgbachhaa
open Go.RowKit Go.Wag
set_option linter.unusedVariables false
set_option linter.unusedSimpArgs false
set_option maxRecDepth 100000 in
set_option maxHeartbeats 8000000 in
theorem chSizes_core (k la n i : Int) (Ad : Option Addr) (md cd : Nat) (Al : Option Addr) (ml cl : Nat) (d : List UInt8) (xs : List Xp) (a : Int) (w : World) (hu : 0 ≤ a ∧ a ≤ 65535) (hla0 : la ≤ 9223372036854775807) (hla : ∀ x ∈ xs, x.la ≤ 9223372036854775807) (hS : Sl w Ad md cd (d.map v8)) (hR : Rs extE (fun b => b < w.heap.size) w Al ml cl xs) :
    Calls Try.prog 9 #[.agg #[.int .i64 k, .int .i64 la, .int .i64 n, .int .i64 i, .slice Ad md cd, .slice Al ml cl], .int .u16 a] w (AwakePost w) := by
  have hl := Lib.hid hla
  have hmd : d.length = md := hS.len8
  have hml : Hid (xs.length = ml) := hR.len
  have hcapl := hR.cap
  have hbigl := hR.big
  obtain ⟨hu0, hu1⟩ := hu
  have bb := Below.refl w.heap.size w
  have S := hS
  have R := hR
  clear hS hR hla
  go_enter Try.func9, Try.ntmps9
  replace S := S.alloc (.cells #[.int .i64 k, .int .i64 la, .int .i64 n, .int .i64 i, .slice Ad md cd, .slice Al ml cl] 37)
  replace R := R.alloc (.cells #[.int .i64 k, .int .i64 la, .int .i64 n, .int .i64 i, .slice Ad md cd, .slice Al ml cl] 37)
  replace bb := bb.alloc bb.size (.cells #[.int .i64 k, .int .i64 la, .int .i64 n, .int .i64 i, .slice Ad md cd, .slice Al ml cl] 37)
  have X := Blk.new w #[.int .i64 k, .int .i64 la, .int .i64 n, .int .i64 i, .slice Ad md cd, .slice Al ml cl] 37
  go_wp2_with fail
  generalize (w.alloc (.cells #[.int .i64 k, .int .i64 la, .int .i64 n, .int .i64 i, .slice Ad md cd, .slice Al ml cl] 37)) = wa at *
  have hC := awake10_any wa
  refine hC.mono ?_
  clear hC
  rintro e w1 ⟨rfl, b1⟩
  replace S := S.below b1
  replace R := R.below b1
  replace X := X.under b1
  replace bb := bb.trans (b1.mono bb.size)
  obtain ⟨Xq0, Xq1, Xq2, Xq3, Xq4, Xq5, Xr0, Xr1, Xr2, Xr3, Xr4, Xr5⟩ := X.six
  have Xl := X.lt
  by_cases h3 : (md : Int) > 3000
  · go_wp2
    go_ret
    exact ⟨rfl, bb⟩
  by_cases h64 : (ml : Int) > 64
  · go_wp2
    go_ret
    exact ⟨rfl, bb⟩
  obtain ⟨n0, hn0⟩ : ∃ x, 9 + md = x := ⟨_, rfl⟩
  have hn0b : n0 ≤ 3009 := by omega
  have hmd64 : wrap64 (9 + (md : Int)) = (n0 : Int) := by unfold wrap64; omega
  have hmdi : IntKind.i64.wrap (9 + (md : Int)) = (n0 : Int) := (IntWalk.i64_left _).trans hmd64
  replace hn0 := Lib.hid hn0
  go_wp2_with fail
  clear hmd64 hmdi
  go_loopg [6, 7] ml (fun g s j wr => ∃ q sz : Nat, q + g = ml ∧ s = .int .i64 (sz : Int) ∧ j = .int .i64 (q : Int) ∧ Hid (sz ≤ 9 + md + 3007 * q) ∧ Hid (sz = n0 + xsum (xs.take q)) ∧ w1 = wr)
  case atStart => exact ⟨0, n0, by omega, rfl, rfl, by have := hn0.out; show n0 ≤ _; omega, by show n0 = _; rw [List.take_zero]; rfl, rfl⟩
  case round =>
    obtain ⟨q, sz, hq, rfl, rfl, hsz, hrow, rfl⟩ := hrel
    by_cases hlt : (q : Int) < (ml : Int)
    · obtain ⟨g, rfl⟩ : ∃ g, gk = g + 1 := ⟨gk - 1, by omega⟩
      obtain ⟨gb, o, x, Ai, ci, rfl, _, hg, hz, c0, c1, c2, c3, c4, hSx, _⟩ := R.ext_at (show q < ml by omega)
      by_cases hb : (x.l.length : Int) > 3000
      · clear hz
        go_wp2
        go_ret
        exact ⟨rfl, bb⟩
      · obtain ⟨t1, ht1⟩ : ∃ t, Hid (t = sz + 7) := ⟨_, rfl⟩
        obtain ⟨t2, ht2⟩ : ∃ t, Hid (t = t1 + x.l.length) := ⟨_, rfl⟩
        have hrow2 : Hid (t2 = n0 + xsum (xs.take (q + 1))) := by unfold Hid; rw [xsum_take hz, ht2.out, ht1.out, hrow.out]; omega
        have hsz2 : Hid (t2 ≤ 9 + md + 3007 * (q + 1)) := csz_step hsz.out (by rw [ht2.out, ht1.out]) hb
        have s1 : wrap64 ((sz : Int) + 7) = (t1 : Int) := by have := hsz.out; have := ht1.out; unfold wrap64; omega
        have s2 : wrap64 ((t1 : Int) + (x.l.length : Int)) = (t2 : Int) := by have := hsz2.out; have := ht2.out; unfold wrap64; omega
        have s3 : IntKind.i64.wrap ((sz : Int) + 7) = (t1 : Int) := (IntWalk.i64_left _).trans s1
        have s4 : IntKind.i64.wrap ((t1 : Int) + (x.l.length : Int)) = (t2 : Int) := (IntWalk.i64_left _).trans s2
        clear hz
        go_wp2
        go_roundg g
        case measure => omega
        case rel => exact ⟨q + 1, t2, by omega, by first | rfl | (simp; done), by first | rfl | (simp; done) | (simp; exact wrap64_small (by omega) (by omega)), hsz2, hrow2, rfl⟩
    · obtain rfl : q = ml := by omega
      rw [List.take_of_length_le (Nat.le_of_eq hml.out)] at hrow
      have hszb := hsz.out
      have hW1 := fun W s r => chWrite_any (F := fun b => b < w.heap.size) k la n i Ad md cd Al q cl d xs W s r hla0 hl.out
      have hfin : ∀ bx, cwr ⟨k, la, n, i, d, xs⟩ = some bx → bx.length = if k = 8 then sz + 1 else sz := by
        intro bx hbx
        obtain ⟨hok, rfl⟩ := cwr_some hbx
        have hnil := (Ch.all hok).2.2.2.2.2.2.2.2.2.2
        rw [cenc_size, hrow.out, ← hn0.out]
        show 9 + d.length + (if k = 8 then 1 + xsum xs else 0) = _
        rw [hmd]
        by_cases hk : k = 8
        · rw [if_pos hk, if_pos hk]
          omega
        · have : xs = [] := hnil hk
          rw [if_neg hk, if_neg hk, this]
          rfl
      replace hsz := hsz
      obtain ⟨s', hs'⟩ : ∃ s', (if k = 8 then sz + 1 else sz) = s' := ⟨_, rfl⟩
      rw [hs'] at hfin
      have hs'b : s' ≤ sz + 1 := by rw [← hs']; split <;> omega
      by_cases hk : k = 8
      · have hk8 : (k == 8) = true := by simpa using hk
        have es : s' = sz + 1 := by rw [← hs', if_pos hk]
        have w1_ : wrap64 ((sz : Int) + 1) = (s' : Int) := by unfold wrap64; omega
        have w2_ : IntKind.i64.wrap ((sz : Int) + 1) = (s' : Int) := (IntWalk.i64_left _).trans w1_
        replace es := Lib.hid es
        replace hk := Lib.hid hk
        cases hc : cwr ⟨k, la, n, i, d, xs⟩ with
        | none =>
          replace hfin := Lib.hid hfin
          go_wp2_with fail
          try clear w1_ w2_
          have hC := BytesErr.no (hW1 w1 S R) hc
          refine hC.mono ?_
          clear hC
          rintro e w3 ⟨A3, m3, c3, rfl, T1, _, b3⟩
          replace S := S.below b3
          replace R := R.below b3
          replace X := X.under b3
          replace bb := bb.trans (b3.mono bb.size)
          replace hc := Lib.hid hc
          clear hW1
          obtain rfl : 0 = m3 := T1.len8
          go_wp2
          go_ret
          exact ⟨rfl, bb⟩
        | some bx =>
          have hbl := hfin bx hc
          have hmx := cwr_max hc
          replace hfin := Lib.hid hfin
          go_wp2_with fail
          try clear w1_ w2_
          have hC := BytesErr.ok (hW1 w1 S R) hc
          refine hC.mono ?_
          clear hC
          rintro e w3 ⟨A3, m3, c3, rfl, T1, _, b3⟩
          replace S := S.below b3
          replace R := R.below b3
          replace X := X.under b3
          replace bb := bb.trans (b3.mono bb.size)
          clear hW1
          obtain rfl : s' = m3 := by rw [← hbl]; exact T1.len8
          rw [hbl] at hmx
          obtain ⟨p, hp⟩ : ∃ p : Nat, a % (s' : Int) = (p : Int) := ⟨(a % (s' : Int)).toNat, by have := Int.emod_nonneg a (show (s' : Int) ≠ 0 by omega); omega⟩
          have hp2 : p < s' := by have := Int.emod_lt_of_pos a (show 0 < (s' : Int) by omega); omega
          have hpt : Int.tmod a (s' : Int) = (p : Int) := by rw [Int.tmod_eq_emod_of_nonneg (by omega)]; exact hp
          have hne : ¬ (s' : Int) = 0 := by omega
          have hp10 : p ≤ 1000000 := by omega
          have hmxx : (if (1 : Int) < (s' : Int) then (s' : Int) else 1) = (s' : Int) := by split <;> omega
          have hcap3 := T1.cap
          have hbig3 := T1.big
          have hcutn := crd_cut hc (m := p) (by rw [hbl]; exact hp2)
          have hS4 := T1.upto (m := p) (Nat.le_of_lt hp2)
          rw [← List.map_take] at hS4
          have hC0 := ChPost.none (chRead_any A3 p c3 _ w3 hS4 hp10) hcutn
          have ha1 : wrap64 a = a := by unfold wrap64; omega
          have ha2 : IntKind.i64.wrap a = a := (IntWalk.i64_left _).trans ha1
          replace hcutn := Lib.hid hcutn
          replace hc := Lib.hid hc
          replace hp := Lib.hid hp
          replace hbl := Lib.hid hbl
          replace hs' := Lib.hid hs'
          go_wp2_with fail
          refine hC0.mono ?_
          clear hC0 hS4
          rintro e w4 ⟨Ae, me, ce, Af, mf, cf, rfl, _, _, b4⟩
          replace S := S.below b4
          replace R := R.below b4
          replace X := X.under b4
          replace bb := bb.trans (b4.mono bb.size)
          try dsimp only [ch0]
          go_wp2
          go_ret
          exact ⟨rfl, bb.alloc bb.size _⟩
      · have hk8 : (k == 8) = false := by simpa using hk
        obtain rfl : s' = sz := by rw [← hs', if_neg hk]
        replace hk := Lib.hid hk
        cases hc : cwr ⟨k, la, n, i, d, xs⟩ with
        | none =>
          replace hfin := Lib.hid hfin
          go_wp2_with fail
          try clear w1_ w2_
          have hC := BytesErr.no (hW1 w1 S R) hc
          refine hC.mono ?_
          clear hC
          rintro e w3 ⟨A3, m3, c3, rfl, T1, _, b3⟩
          replace S := S.below b3
          replace R := R.below b3
          replace X := X.under b3
          replace bb := bb.trans (b3.mono bb.size)
          replace hc := Lib.hid hc
          clear hW1
          obtain rfl : 0 = m3 := T1.len8
          go_wp2
          go_ret
          exact ⟨rfl, bb⟩
        | some bx =>
          have hbl := hfin bx hc
          have hmx := cwr_max hc
          replace hfin := Lib.hid hfin
          go_wp2_with fail
          try clear w1_ w2_
          have hC := BytesErr.ok (hW1 w1 S R) hc
          refine hC.mono ?_
          clear hC
          rintro e w3 ⟨A3, m3, c3, rfl, T1, _, b3⟩
          replace S := S.below b3
          replace R := R.below b3
          replace X := X.under b3
          replace bb := bb.trans (b3.mono bb.size)
          clear hW1
          obtain rfl : s' = m3 := by rw [← hbl]; exact T1.len8
          rw [hbl] at hmx
          obtain ⟨p, hp⟩ : ∃ p : Nat, a % (s' : Int) = (p : Int) := ⟨(a % (s' : Int)).toNat, by have := Int.emod_nonneg a (show (s' : Int) ≠ 0 by omega); omega⟩
          have hp2 : p < s' := by have := Int.emod_lt_of_pos a (show 0 < (s' : Int) by omega); omega
          have hpt : Int.tmod a (s' : Int) = (p : Int) := by rw [Int.tmod_eq_emod_of_nonneg (by omega)]; exact hp
          have hne : ¬ (s' : Int) = 0 := by omega
          have hp10 : p ≤ 1000000 := by omega
          have hmxx : (if (1 : Int) < (s' : Int) then (s' : Int) else 1) = (s' : Int) := by split <;> omega
          have hcap3 := T1.cap
          have hbig3 := T1.big
          have hcutn := crd_cut hc (m := p) (by rw [hbl]; exact hp2)
          have hS4 := T1.upto (m := p) (Nat.le_of_lt hp2)
          rw [← List.map_take] at hS4
          have hC0 := ChPost.none (chRead_any A3 p c3 _ w3 hS4 hp10) hcutn
          have ha1 : wrap64 a = a := by unfold wrap64; omega
          have ha2 : IntKind.i64.wrap a = a := (IntWalk.i64_left _).trans ha1
          replace hcutn := Lib.hid hcutn
          replace hc := Lib.hid hc
          replace hp := Lib.hid hp
          replace hbl := Lib.hid hbl
          replace hs' := Lib.hid hs'
          go_wp2_with fail
          refine hC0.mono ?_
          clear hC0 hS4
          rintro e w4 ⟨Ae, me, ce, Af, mf, cf, rfl, _, _, b4⟩
          replace S := S.below b4
          replace R := R.below b4
          replace X := X.under b4
          replace bb := bb.trans (b4.mono bb.size)
          try dsimp only [ch0]
          go_wp2
          go_ret
          exact ⟨rfl, bb.alloc bb.size _⟩
theorem ChangeSizes_walk (a0_0 : Int) (a0_1 : Int) (a0_2 : Int) (a0_3 : Int) (a0_4 : Option Addr) (len0_4 cap0_4 : Nat) (z0_4 : List Int) (a0_5 : Option Addr) (len0_5 cap0_5 : Nat) (a1 : Int) (w : World) (w0_0 : (Lit.int .i64 a0_0).wf = true) (w0_1 : (Lit.int .i64 a0_1).wf = true) (w0_2 : (Lit.int .i64 a0_2).wf = true) (w0_3 : (Lit.int .i64 a0_3).wf = true) (w0_4 : IsRow .u8 w a0_4 len0_4 cap0_4 z0_4) (w0_5 : IsSts [.num .i64, .num .i64, .num .i64, .num .i64, .row .u8] w a0_5 len0_5 cap0_5) (w1 : (Lit.int .u16 a1).wf = true) :
    Calls Try.prog 9 #[.agg #[.int .i64 a0_0, .int .i64 a0_1, .int .i64 a0_2, .int .i64 a0_3, .slice a0_4 len0_4 cap0_4, .slice a0_5 len0_5 cap0_5], .int .u16 a1] w (AwakePost w) := by
  obtain ⟨d, S⟩ := w0_4.bytes
  obtain ⟨xs, hla, R⟩ := exts_of_sts w0_5
  exact chSizes_core a0_0 a0_1 a0_2 a0_3 a0_4 len0_4 cap0_4 a0_5 len0_5 cap0_5 d xs a1 w (by have := bounds_u16 w1; omega) (ext_wf w0_1) hla S R
end Go.Proofs.Ytbhohjbgbachhaa
