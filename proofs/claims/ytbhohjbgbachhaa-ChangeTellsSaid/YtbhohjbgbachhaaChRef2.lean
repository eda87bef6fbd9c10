/-
  Contract of the document's Write of changes (written by gen_chref2.py).
-/
import Derived.Test.YtbhohjbgbachhaaCh3
import Derived.Test.YtbhohjbgbachhaaChRef1
import Derived.Test.YtbhohjbgbachhaaRef7f
import Derived.Deep.Cut
namespace Go.Proofs.Ytbhohjbgbachhaa
open Go.RowKit Go.Wag
set_option linter.unusedVariables false
set_option linter.unusedSimpArgs false
set_option maxRecDepth 20000
set_option maxHeartbeats 4000000 in
theorem gWrite_any {F : Nat → Prop} (k la n i : Int) (Ad : Option Addr) (md cd : Nat) (Al : Option Addr) (ml cl : Nat) (d : List UInt8) (xs : List Xp) (w : World) (hS : Sl w Ad md cd (d.map v8)) (h : Rs extE F w Al ml cl xs) (hla0 : la ≤ 9223372036854775807) (hla : ∀ x ∈ xs, x.la ≤ 9223372036854775807) :
    Calls Try.prog 25 #[.agg #[.int .i64 k, .int .i64 la, .int .i64 n, .int .i64 i, .slice Ad md cd, .slice Al ml cl]] w (BytesErr w (cwr ⟨k, la, n, i, d, xs⟩) 100) := by
  have hmd : d.length = md := hS.len8
  have hcap := h.cap
  have hbig := h.big
  have hC := fun W hh => gCheck_any (F := F) k la n i Ad md cd Al ml cl xs W hh hla0 hla
  have X := Blk.new w #[.int .i64 k, .int .i64 la, .int .i64 n, .int .i64 i, .slice Ad md cd, .slice Al ml cl] 37
  have bb := (Below.refl w.heap.size w).alloc (Nat.le_refl _) (.cells #[.int .i64 k, .int .i64 la, .int .i64 n, .int .i64 i, .slice Ad md cd, .slice Al ml cl] 37)
  have h' := h.alloc (.cells #[.int .i64 k, .int .i64 la, .int .i64 n, .int .i64 i, .slice Ad md cd, .slice Al ml cl] 37)
  have hS' := hS.alloc (.cells #[.int .i64 k, .int .i64 la, .int .i64 n, .int .i64 i, .slice Ad md cd, .slice Al ml cl] 37)
  cases hc : cchk k la n i md xs
  · rw [hc] at hC
    have hr : cwr ⟨k, la, n, i, d, xs⟩ = none := cwr_no (by show ¬ cchk k la n i d.length xs = true; rw [hmd, hc]; simp)
    rw [hr]
    obtain ⟨x0, x1, x2, x3, x4, x5, _⟩ := X.six
    go_enter Try.func25, Try.ntmps25
    go_wp2_with fail
    refine (hC _ h').mono ?_
    clear hC
    rintro e w1 ⟨rfl, b1⟩
    replace bb := bb.trans (b1.mono bb.size)
    clear b1
    go_wp2
    go_ret2
    exact ⟨none, 0, 0, rfl, Sl.nil _, Nw.nil _ _ _, bb⟩
  · rw [hc] at hC
    have hok : (Ch.mk k la n i d xs).ok = true := by show cchk k la n i d.length xs = true; rw [hmd, hc]
    have ha := cchk_all hc
    have hr := cwr_yes hok
    rw [hr]
    have m0 : k % 18446744073709551616 = k := by omega
    have m1 : la % 18446744073709551616 = la := by omega
    have m2 : n % 18446744073709551616 = n := by omega
    have m3 : i % 18446744073709551616 = i := by omega
    have m4 : (md : Int) % 18446744073709551616 = md := by omega
    have hp : packF [98, 98, 98, 119, 104] [UInt64.ofNat k.toNat, UInt64.ofNat la.toNat, UInt64.ofNat n.toNat, UInt64.ofNat i.toNat, UInt64.ofNat md] = some (chead k.toNat la.toNat n.toNat i.toNat md) := cpack (by omega) (by omega) (by omega) (by omega) (by omega)
    have hmdb : md ≤ 1000000 := by omega
    obtain ⟨ib, hib, hz0, hz1, hz2⟩ := info_parts i5
    obtain ⟨x0, x1, x2, x3, x4, x5, _⟩ := X.six
    go_enter Try.func25, Try.ntmps25
    go_wp2_with fail
    refine (hC _ h').mono ?_
    clear hC x0 x1 x2 x3 x4 x5
    rintro e w1 ⟨rfl, b1⟩
    replace bb := bb.trans (b1.mono bb.size)
    replace X := X.under b1
    replace h' := h'.below b1
    replace hS' := hS'.below b1
    clear b1
    obtain ⟨kx, hkx⟩ : ∃ x, w.heap.size = x := ⟨_, rfl⟩
    simp only [hkx] at X ⊢
    obtain ⟨x0, x1, x2, x3, x4, x5, _⟩ := X.six
    have s5 := chsl_five w1 hc
    have bN := (Below.refl w1.heap.size w1).alloc (Nat.le_refl _) (.cells #[.int .u64 k, .int .u64 la, .int .u64 n, .int .u64 i, .int .u64 (md : Int)] 71)
    go_wp2_with fail
    clear x0 x1 x2 x3 x4 x5
    generalize w1.alloc (.cells #[.int .u64 k, .int .u64 la, .int .u64 n, .int .u64 i, .int .u64 (md : Int)] 71) = w2 at *
    replace X := X.under bN
    replace h' := h'.below bN
    replace hS' := hS'.below bN
    replace bb := bb.trans (bN.mono bb.size)
    clear bN
    have bb1 := bb
    have bb0 := bb.size
    refine (BytesErr.ok (refPack_any ⟨#[98, 98, 98, 119, 104]⟩ _ 5 5 [UInt64.ofNat k.toNat, UInt64.ofNat la.toNat, UInt64.ofNat n.toNat, UInt64.ofNat i.toNat, UInt64.ofNat md] w2 s5 (by decide)) hp).mono ?_
    rintro e w3 ⟨A3, n3, c3, rfl, s3, f3, b3⟩
    obtain rfl : n3 = 9 := by have := s3.len8; rw [chead_length] at this; exact this.symm
    have X3 := X.under b3
    have S3 := hS'.below b3
    clear s5 s3 m0 m1 m2 m3 m4 hp
    obtain ⟨x0, x1, x2, x3, x4, x5, _⟩ := X3.six
    have HO := Own.start f3 b3.size
    go_upto_region 6 with (at_builtin; refine wpList_app rfl (.tmp 34) (.tmp 36) 35 rfl rfl HO ib (.int .u8 0) 1 Try.underlying35 hib hz0 hz1 hz2 rfl _ _ _ _ rfl S3 (oneCell8 _) (by omega) (by omega) ?_; intro A4 c4 w4 hw4)
    clear x0 x1 x2 x3 x4 x5 HO X3 S3
    have b4 := own_below f3 hw4 b3
    have f4 : Nw 5 w2 w4 A4 (9 + md) c4 ((chead k.toNat la.toNat n.toNat i.toNat md ++ d).map v8) := by
      have := hw4.own
      rw [← List.map_append] at this
      exact this
    replace X := X.under b4
    replace h' := h'.below b4
    replace bb := bb.trans (b4.mono bb.size)
    clear hw4 f3 b3
    obtain ⟨x0, x1, x2, x3, x4, x5, _⟩ := X.six
    by_cases hk : k = 8
    · subst hk
      have hwx := clist_wr (ha.2.2.2.2.2.2.2.2.2.1 rfl)
      have hmx := (clist_all xs 0 (ha.2.2.2.2.2.2.2.2.2.1 rfl) (by omega)).2
      go_wp2_with fail
      refine (BytesErr.ok (fWrite_any xs Al ml cl w4 h') hwx).mono ?_
      clear x0 x1 x2 x3 x4 x5
      rintro e w5 ⟨A5, n5, c5, rfl, s5, f5, b5⟩
      have hn5 := s5.len8
      rw [List.length_cons] at hn5
      replace f4 := f4.below b5
      have b6 := b4.trans (b5.mono b4.size)
      have HO := Own.start f4 b6.size
      have hcz : chead (8 : Int).toNat la.toNat n.toNat i.toNat md ++ d ++ (UInt8.ofNat xs.length :: xencs xs) = cenc ⟨8, la, n, i, d, xs⟩ := by
        unfold cenc ctail
        rw [if_pos rfl, List.append_assoc]
        show _ = chead (8 : Int).toNat la.toNat n.toNat i.toNat d.length ++ _
        rw [hmd]
      replace hcz := Lib.hid hcz
      go_wp2_with (at_builtin; refine wpList_app rfl (.tmp 47) (.tmp 48) 35 rfl rfl HO ib (.int .u8 0) 1 Try.underlying35 hib hz0 hz1 hz2 rfl _ _ _ _ rfl s5 (oneCell8 _) (by omega) (by omega) ?_; intro A7 c7 w7 hw7)
      have b7 := own_below f4 hw7 b6
      have f7 : Nw 5 w2 w7 A7 (9 + md + n5) c7 ((cenc ⟨8, la, n, i, d, xs⟩).map v8) := by
        have := hw7.own
        rw [← List.map_append, hcz.out] at this
        exact this
      go_ret2
      exact ⟨A7, _, c7, rfl, Sl.of_own f7, f7.mono (w := w) bb0, hkx ▸ bb1.trans (b7.mono bb0)⟩
    · have hk8 : (k == 8) = false := by simpa using hk
      replace hk := Lib.hid hk
      have hcz : chead k.toNat la.toNat n.toNat i.toNat md ++ d = cenc ⟨k, la, n, i, d, xs⟩ := by
        unfold cenc ctail
        rw [if_neg hk.out, List.append_nil]
        show _ = chead k.toNat la.toNat n.toNat i.toNat d.length ++ _
        rw [hmd]
      rw [hcz] at f4
      go_wp2
      go_ret2
      exact ⟨A4, _, c4, rfl, Sl.of_own f4, f4.mono (w := w) bb0, hkx ▸ bb⟩
end Go.Proofs.Ytbhohjbgbachhaa
