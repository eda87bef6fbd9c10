/-
  Contracts of slices.Concat (of three) and change.Write (written by gen_ch3.py).
-/
import Derived.Test.YtbhohjbgbachhaaCh2
import Derived.Test.YtbhohjbgbachhaaExA
namespace Go.Proofs.Ytbhohjbgbachhaa
open Go.RowKit Go.Wag
set_option linter.unusedVariables false
set_option linter.unusedSimpArgs false
set_option maxRecDepth 20000
def cat3 (l l2 l3 : List UInt8) (k : Nat) : List UInt8 := if k = 0 then [] else if k = 1 then l else if k = 2 then l ++ l2 else l ++ l2 ++ l3
set_option maxHeartbeats 2000000 in
theorem chConcat_any (gr : Nat) (t : TypeId) (A : Option Addr) (n c : Nat) (l : List UInt8) (A2 : Option Addr) (n2 c2 : Nat) (l2 : List UInt8) (A3 : Option Addr) (n3 c3 : Nat) (l3 : List UInt8) (w : World) (V : Blk w gr #[.slice A n c, .slice A2 n2 c2, .slice A3 n3 c3] t) (h : Sl w A n c (l.map v8)) (h2 : Sl w A2 n2 c2 (l2.map v8)) (h3 : Sl w A3 n3 c3 (l3.map v8)) (hn : n ≤ 1000000) (hn2 : n2 ≤ 1000000) (hn3 : n3 ≤ 1000000) :
    Calls Try.prog 50 #[.slice (some ⟨gr, 0, none⟩) 3 3] w (ByNew w (l ++ l2 ++ l3)) := by
  have hl : l.length = n := h.len8
  have hl2 : l2.length = n2 := h2.len8
  have hl3 : l3.length = n3 := h3.len8
  obtain ⟨i0, hi, hz0, hz1, hz2⟩ := info_parts i5
  obtain ⟨q0, q1, q2, _⟩ := V.three
  go_enter Try.func50, Try.ntmps50
  go_wp2_with fail
  go_loopg [3, 11] 3 (fun g x i wr => ∃ k : Nat, k + g = 3 ∧ x = .int .i64 (((cat3 l l2 l3 k).length : Nat) : Int) ∧ i = .int .i64 (k : Int) ∧ w = wr)
  case atStart => exact ⟨0, by omega, rfl, rfl, rfl⟩
  case round =>
    obtain ⟨k, hk, rfl, rfl, rfl⟩ := hrel
    by_cases k0 : k = 0
    · subst k0
      obtain rfl : gk = 3 := by omega
      have e1 : wrap64 ((((cat3 l l2 l3 0).length : Nat) : Int) + (n : Int)) = ((cat3 l l2 l3 1).length : Nat) := by simp only [cat3]; unfold wrap64; simp [hl, hl2, hl3]; omega
      have e2 : ¬ (((cat3 l l2 l3 1).length : Nat) : Int) < 0 := by omega
      go_wp2_with fail
      go_roundg 2
      case measure => omega
      case rel => exact ⟨1, by omega, rfl, rfl, rfl⟩
    by_cases k1 : k = 1
    · subst k1
      obtain rfl : gk = 2 := by omega
      have e1 : wrap64 ((((cat3 l l2 l3 1).length : Nat) : Int) + (n2 : Int)) = ((cat3 l l2 l3 2).length : Nat) := by simp only [cat3]; unfold wrap64; simp [hl, hl2, hl3]; omega
      have e2 : ¬ (((cat3 l l2 l3 2).length : Nat) : Int) < 0 := by omega
      go_wp2_with fail
      go_roundg 1
      case measure => omega
      case rel => exact ⟨2, by omega, rfl, rfl, rfl⟩
    by_cases k2 : k = 2
    · subst k2
      obtain rfl : gk = 1 := by omega
      have e1 : wrap64 ((((cat3 l l2 l3 2).length : Nat) : Int) + (n3 : Int)) = ((cat3 l l2 l3 3).length : Nat) := by simp only [cat3]; unfold wrap64; simp [hl, hl2, hl3]; omega
      have e2 : ¬ (((cat3 l l2 l3 3).length : Nat) : Int) < 0 := by omega
      go_wp2_with fail
      go_roundg 0
      case measure => omega
      case rel => exact ⟨3, by omega, rfl, rfl, rfl⟩
    obtain rfl : k = 3 := by omega
    obtain rfl : gk = 0 := by omega
    have hs : (cat3 l l2 l3 3).length ≤ 10000000000000 := by simp [cat3, hl, hl2, hl3]; omega
    have hC := eGrow_any (cat3 l l2 l3 3).length w hs
    generalize (cat3 l l2 l3 3).length = s at *
    go_wp2_with fail
    refine hC.mono ?_
    clear hC
    rintro e w1 ⟨A1, n1, c1, rfl, O1, b1⟩
    obtain rfl : 0 = n1 := by simpa using O1.1
    go_wp2_with fail
    go_loopg [6, 27] 3 (fun g x i wr => ∃ (k : Nat) (Ar : Option Addr) (nr cr : Nat), k + g = 3 ∧ x = .slice Ar nr cr ∧ i = .int .i64 (k : Int) ∧ Nw 5 w wr Ar nr cr ((cat3 l l2 l3 k).map v8) ∧ Below w.heap.size w wr)
    case atStart => exact ⟨0, _, _, _, by omega, rfl, rfl, O1, b1⟩
    case round =>
      obtain ⟨k, Ar, nr, cr, hk, rfl, rfl, O, bb⟩ := hrel
      have hnr : (cat3 l l2 l3 k).length = nr := by simpa using O.1
      have hV := V.under bb
      obtain ⟨q0, q1, q2, _⟩ := hV.three
      have hs1 := h.below bb
      have hs2 := h2.below bb
      have hs3 := h3.below bb
      have HO := Own.start O bb.size
      by_cases k0 : k = 0
      · subst k0
        obtain rfl : gk = 3 := by omega
        obtain rfl : nr = 0 := by rw [← hnr]; rfl
        go_wp2_with (at_builtin; refine wpList_app rfl (.tmp 31) (.tmp 32) 35 rfl rfl HO i0 (.int .u8 0) 1 Try.underlying35 hi hz0 hz1 hz2 rfl _ _ _ _ rfl hs1 (oneCell8 _) (by omega) (by omega) ?_; intro A3 c3 w3 hw3)
        go_roundg 2
        case measure => omega
        case rel => exact ⟨1, _, _, _, by omega, rfl, rfl, by have := hw3.own; rw [← List.map_append, Nat.zero_add] at this; exact this, own_below O hw3 bb⟩
      by_cases k1 : k = 1
      · subst k1
        obtain rfl : gk = 2 := by omega
        obtain rfl : nr = n := by rw [← hnr]; simpa [cat3] using hl
        go_wp2_with (at_builtin; refine wpList_app rfl (.tmp 31) (.tmp 32) 35 rfl rfl HO i0 (.int .u8 0) 1 Try.underlying35 hi hz0 hz1 hz2 rfl _ _ _ _ rfl hs2 (oneCell8 _) (by omega) (by omega) ?_; intro A3 c3 w3 hw3)
        go_roundg 1
        case measure => omega
        case rel => exact ⟨2, _, _, _, by omega, rfl, rfl, by have := hw3.own; rw [← List.map_append] at this; exact this, own_below O hw3 bb⟩
      by_cases k2 : k = 2
      · subst k2
        obtain rfl : gk = 1 := by omega
        obtain rfl : nr = n + n2 := by rw [← hnr]; simp [cat3, hl, hl2]
        go_wp2_with (at_builtin; refine wpList_app rfl (.tmp 31) (.tmp 32) 35 rfl rfl HO i0 (.int .u8 0) 1 Try.underlying35 hi hz0 hz1 hz2 rfl _ _ _ _ rfl hs3 (oneCell8 _) (by omega) (by omega) ?_; intro A3 c3 w3 hw3)
        go_roundg 0
        case measure => omega
        case rel => exact ⟨3, _, _, _, by omega, rfl, rfl, by have := hw3.own; rw [← List.map_append] at this; exact this, own_below O hw3 bb⟩
      obtain rfl : k = 3 := by omega
      go_wp2
      go_ret
      exact ⟨_, _, _, rfl, O, bb⟩
/-- The five numbers of a change, in a row. -/
theorem chsl_five (w : World) {k la n i : Int} {md : Nat} {l : List Xp} (h : cchk k la n i md l = true) :
    Sl (w.alloc (.cells #[.int .u64 k, .int .u64 la, .int .u64 n, .int .u64 i, .int .u64 (md : Int)] 71)) (some ⟨w.heap.size, 0, none⟩) 5 5 ([UInt64.ofNat k.toNat, UInt64.ofNat la.toNat, UInt64.ofNat n.toNat, UInt64.ofNat i.toNat, UInt64.ofNat md].map v64) := by
  have ha := cchk_all h
  have e1 : ((UInt64.ofNat k.toNat).toNat : Int) = k := by rw [xnat64 (by omega)]; omega
  have e2 : ((UInt64.ofNat la.toNat).toNat : Int) = la := by rw [xnat64 (by omega)]; omega
  have e3 : ((UInt64.ofNat n.toNat).toNat : Int) = n := by rw [xnat64 (by omega)]; omega
  have e5 : ((UInt64.ofNat i.toNat).toNat : Int) = i := by rw [xnat64 (by omega)]; omega
  have e6 : ((UInt64.ofNat md).toNat : Int) = md := by rw [xnat64 (by omega)]
  have e4 : [UInt64.ofNat k.toNat, UInt64.ofNat la.toNat, UInt64.ofNat n.toNat, UInt64.ofNat i.toNat, UInt64.ofNat md].map v64 = [.int .u64 k, .int .u64 la, .int .u64 n, .int .u64 i, .int .u64 (md : Int)] := by
    simp only [List.map_cons, List.map_nil, v64, e1, e2, e3, e5, e6]
  rw [e4]
  exact Sl.new w _ _ (by simp)
set_option maxHeartbeats 4000000 in
theorem chWrite_any {F : Nat → Prop} (k la n i : Int) (Ad : Option Addr) (md cd : Nat) (Al : Option Addr) (ml cl : Nat) (d : List UInt8) (xs : List Xp) (w : World) (hS : Sl w Ad md cd (d.map v8)) (h : Rs extE F w Al ml cl xs) (hla0 : la ≤ 9223372036854775807) (hla : ∀ x ∈ xs, x.la ≤ 9223372036854775807) :
    Calls Try.prog 24 #[.agg #[.int .i64 k, .int .i64 la, .int .i64 n, .int .i64 i, .slice Ad md cd, .slice Al ml cl]] w (BytesErr w (cwr ⟨k, la, n, i, d, xs⟩) 100) := by
  have hmd : d.length = md := hS.len8
  have hcap := h.cap
  have hbig := h.big
  have hC := fun W hh => chCheck_any (F := F) k la n i Ad md cd Al ml cl xs W hh hla0 hla
  have X := Blk.new w #[.int .i64 k, .int .i64 la, .int .i64 n, .int .i64 i, .slice Ad md cd, .slice Al ml cl] 37
  have bb := (Below.refl w.heap.size w).alloc (Nat.le_refl _) (.cells #[.int .i64 k, .int .i64 la, .int .i64 n, .int .i64 i, .slice Ad md cd, .slice Al ml cl] 37)
  have h' := h.alloc (.cells #[.int .i64 k, .int .i64 la, .int .i64 n, .int .i64 i, .slice Ad md cd, .slice Al ml cl] 37)
  have hS' := hS.alloc (.cells #[.int .i64 k, .int .i64 la, .int .i64 n, .int .i64 i, .slice Ad md cd, .slice Al ml cl] 37)
  cases hc : cchk k la n i md xs
  · rw [hc] at hC
    have hr : cwr ⟨k, la, n, i, d, xs⟩ = none := cwr_no (by show ¬ cchk k la n i d.length xs = true; rw [hmd, hc]; simp)
    rw [hr]
    obtain ⟨x0, x1, x2, x3, x4, x5, _⟩ := X.six
    go_enter Try.func24, Try.ntmps24
    go_wp2_with fail
    refine (hC _ h').mono ?_
    clear hC
    rintro e w1 ⟨rfl, b1⟩
    replace bb := bb.trans (b1.mono bb.size)
    clear b1
    go_wp2
    go_ret2
    exact ⟨none, 0, 0, rfl, Sl.nil _, Nw.nil _ _ _, bb⟩
  · rw [hc] at hC
    have hok : (Ch.mk k la n i d xs).ok = true := by show cchk k la n i d.length xs = true; rw [hmd, hc]
    have ha := cchk_all hc
    have hr := cwr_yes hok
    rw [hr]
    have m0 : k % 18446744073709551616 = k := by omega
    have m1 : la % 18446744073709551616 = la := by omega
    have m2 : n % 18446744073709551616 = n := by omega
    have m3 : i % 18446744073709551616 = i := by omega
    have m4 : (md : Int) % 18446744073709551616 = md := by omega
    have hp : packF [98, 98, 98, 119, 104] [UInt64.ofNat k.toNat, UInt64.ofNat la.toNat, UInt64.ofNat n.toNat, UInt64.ofNat i.toNat, UInt64.ofNat md] = some (chead k.toNat la.toNat n.toNat i.toNat md) := cpack (by omega) (by omega) (by omega) (by omega) (by omega)
    have hmdb : md ≤ 1000000 := by omega
    obtain ⟨x0, x1, x2, x3, x4, x5, _⟩ := X.six
    go_enter Try.func24, Try.ntmps24
    go_wp2_with fail
    refine (hC _ h').mono ?_
    clear hC x0 x1 x2 x3 x4 x5
    rintro e w1 ⟨rfl, b1⟩
    replace bb := bb.trans (b1.mono bb.size)
    replace X := X.under b1
    replace h' := h'.below b1
    replace hS' := hS'.below b1
    clear b1
    obtain ⟨kx, hkx⟩ : ∃ x, w.heap.size = x := ⟨_, rfl⟩
    simp only [hkx] at X ⊢
    obtain ⟨x0, x1, x2, x3, x4, x5, _⟩ := X.six
    have s5 := chsl_five w1 hc
    have bN := (Below.refl w1.heap.size w1).alloc (Nat.le_refl _) (.cells #[.int .u64 k, .int .u64 la, .int .u64 n, .int .u64 i, .int .u64 (md : Int)] 71)
    go_wp2_with fail
    clear x0 x1 x2 x3 x4 x5
    generalize w1.alloc (.cells #[.int .u64 k, .int .u64 la, .int .u64 n, .int .u64 i, .int .u64 (md : Int)] 71) = w2 at *
    refine (BytesErr.ok (Pack_any ⟨#[98, 98, 98, 119, 104]⟩ _ 5 5 [UInt64.ofNat k.toNat, UInt64.ofNat la.toNat, UInt64.ofNat n.toNat, UInt64.ofNat i.toNat, UInt64.ofNat md] w2 s5 (by decide)) hp).mono ?_
    rintro e w3 ⟨A3, n3, c3, rfl, s3, f3, b3⟩
    obtain rfl : n3 = 9 := by have := s3.len8; rw [chead_length] at this; exact this.symm
    replace bN := bN.trans (b3.mono bN.size)
    replace bb := bb.trans (bN.mono bb.size)
    replace X := X.under bN
    replace h' := h'.below bN
    replace hS' := hS'.below bN
    clear b3 bN s5 f3 m0 m1 m2 m3 m4 hp
    obtain ⟨x0, x1, x2, x3, x4, x5, _⟩ := X.six
    by_cases hk : k = 8
    · subst hk
      have hwx := clist_wr (ha.2.2.2.2.2.2.2.2.2.1 rfl)
      have hmx := (clist_all xs 0 (ha.2.2.2.2.2.2.2.2.2.1 rfl) (by omega)).2
      go_wp2_with fail
      refine (BytesErr.ok (eWrite_any xs Al ml cl w3 h' hla) hwx).mono ?_
      clear x0 x1 x2 x3 x4 x5
      rintro e w4 ⟨A4, n4, c4, rfl, s4, f4, b4⟩
      have hn4 := s4.len8
      rw [List.length_cons] at hn4
      replace bb := bb.trans (b4.mono bb.size)
      replace X := X.under b4
      replace hS' := hS'.below b4
      replace s3 := s3.below b4
      clear f4 b4 h'
      obtain ⟨x0, x1, x2, x3, x4, x5, _⟩ := X.six
      have V := Blk.new w4 #[.slice A3 9 c3, .slice Ad md cd, .slice A4 n4 c4] 35
      have bA := bb.alloc bb.size (.cells #[.slice A3 9 c3, .slice Ad md cd, .slice A4 n4 c4] 35)
      replace s3 := s3.alloc (.cells #[.slice A3 9 c3, .slice Ad md cd, .slice A4 n4 c4] 35)
      replace hS' := hS'.alloc (.cells #[.slice A3 9 c3, .slice Ad md cd, .slice A4 n4 c4] 35)
      replace s4 := s4.alloc (.cells #[.slice A3 9 c3, .slice Ad md cd, .slice A4 n4 c4] 35)
      go_wp2_with fail
      refine (chConcat_any _ _ A3 9 c3 _ Ad md cd d A4 n4 c4 _ _ V s3 hS' s4 (by omega) hmdb (by omega)).mono ?_
      clear x0 x1 x2 x3 x4 x5 V
      rintro e w5 ⟨A5, n5, c5, rfl, f5, b5⟩
      have hcz : chead (8 : Int).toNat la.toNat n.toNat i.toNat md ++ d ++ (UInt8.ofNat xs.length :: xencs xs) = cenc ⟨8, la, n, i, d, xs⟩ := by
        unfold cenc ctail
        rw [if_pos rfl, List.append_assoc]
        show _ = chead (8 : Int).toNat la.toNat n.toNat i.toNat d.length ++ _
        rw [hmd]
      rw [hcz] at f5
      go_wp2
      go_ret2
      exact ⟨A5, n5, c5, rfl, Sl.of_own f5, f5.mono (w := w) bA.size, hkx ▸ bA.trans (b5.mono bA.size)⟩
    · have hk8 : (k == 8) = false := by simpa using hk
      replace hk := Lib.hid hk
      have V := Blk.new w3 #[.slice A3 9 c3, .slice Ad md cd, .slice none 0 0] 35
      have bA := bb.alloc bb.size (.cells #[.slice A3 9 c3, .slice Ad md cd, .slice none 0 0] 35)
      replace s3 := s3.alloc (.cells #[.slice A3 9 c3, .slice Ad md cd, .slice none 0 0] 35)
      replace hS' := hS'.alloc (.cells #[.slice A3 9 c3, .slice Ad md cd, .slice none 0 0] 35)
      go_wp2_with fail
      refine (chConcat_any _ _ A3 9 c3 _ Ad md cd d none 0 0 [] _ V s3 hS' (Sl.nil _) (by omega) hmdb (by omega)).mono ?_
      clear x0 x1 x2 x3 x4 x5 V
      rintro e w5 ⟨A5, n5, c5, rfl, f5, b5⟩
      have hcz : chead k.toNat la.toNat n.toNat i.toNat md ++ d ++ [] = cenc ⟨k, la, n, i, d, xs⟩ := by
        unfold cenc ctail
        rw [if_neg hk.out, List.append_assoc]
        show _ = chead k.toNat la.toNat n.toNat i.toNat d.length ++ _
        rw [hmd]
      rw [hcz] at f5
      go_wp2
      go_ret2
      exact ⟨A5, n5, c5, rfl, Sl.of_own f5, f5.mono (w := w) bA.size, hkx ▸ bA.trans (b5.mono bA.size)⟩
end Go.Proofs.Ytbhohjbgbachhaa
