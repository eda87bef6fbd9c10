/-
  Contract of Write of extents.
-/
import Derived.Test.YtepaojegcaapfaaExt5
import Derived.Deep.Cut
namespace Go.Wag
open Go.RowKit
set_option linter.unusedVariables false
theorem xnat64 {n : Nat} (h : n < 18446744073709551616) : ((UInt64.ofNat n).toNat : Int) = (n : Int) := by rw [UInt64.toNat_ofNat']; omega
theorem xwr_yes {l : List Xp} (h : l.length ≤ 64) (h2 : xallok l = true) : xwr l = some (UInt8.ofNat l.length :: xencs l) := by
  unfold xwr
  rw [if_pos ⟨h, h2⟩]
theorem xwr_long {l : List Xp} (h : ¬ l.length ≤ 64) : xwr l = none := by
  unfold xwr
  rw [if_neg (fun hh => h hh.1)]
theorem xwr_bad {l : List Xp} {i : Nat} {x : Xp} (hi : l[i]? = some x) (hx : x.ok = false) : xwr l = none := by
  unfold xwr
  rw [if_neg (fun hh => by
    have := xallok_all hh.2 x (List.mem_iff_getElem?.2 ⟨i, hi⟩)
    rw [hx] at this
    cases this)]
theorem xalloc_below {w w' : World} {o : Obj} (h : Below (w.alloc o).heap.size (w.alloc o) w') : Below w.heap.size w w' := ((Below.refl _ w).alloc (Nat.le_refl _) o).trans (h.mono (by simp))
/-- What stands when k extents are written. -/
def wrow (xs : List Xp) (k : Nat) : List UInt8 := UInt8.ofNat xs.length :: xencs (xs.take k)
theorem take_snoc {α : Type} {xs : List α} {k : Nat} {x : α} (h : xs[k]? = some x) : xs.take (k + 1) = xs.take k ++ [x] := by
  rw [List.take_add_one, h]
  rfl
theorem wrow_succ {xs : List Xp} {k : Nat} {x : Xp} (h : xs[k]? = some x) : wrow xs (k + 1) = (wrow xs k ++ xhead x) ++ x.l := by
  unfold wrow
  rw [take_snoc h, xencs_snoc]
  simp [xenc]
theorem wrow_end {xs : List Xp} {n : Nat} (hn : xs.length = n) (h : n ≤ 64) (ha : xallok (xs.take n) = true) : xwr xs = some (wrow xs n) := by
  have e : xs.take n = xs := List.take_of_length_le (by omega)
  unfold wrow
  rw [e] at ha ⊢
  exact xwr_yes (by omega) ha
theorem xallok_succ {xs : List Xp} {k : Nat} {x : Xp} (h : xs[k]? = some x) (ha : xallok (xs.take k) = true) (hx : x.ok = true) : xallok (xs.take (k + 1)) = true := by
  rw [take_snoc h, xallok_snoc, ha, hx]
  rfl
theorem leb_one {n : Nat} (h : n < 256) : leb 1 n = [UInt8.ofNat n] := by
  simp [leb]
theorem xpack1 {n : Nat} (h : n ≤ 64) : packF [98] [UInt64.ofNat n] = some [UInt8.ofNat n] := by
  have e1 : (UInt64.ofNat n).toNat = n := by rw [UInt64.toNat_ofNat']; omega
  have l1 : ltr ((98 : UInt8).toNat : Int) = 1 := by decide
  simp only [packF, l1, e1]
  rw [if_neg (by simp [fitsB]; omega)]
  simp [leb]
theorem xpack_head {la n k g m : Int} (h : xchk la n k g m = true) (l : List UInt8) : packF [98, 98, 98, 119] [UInt64.ofNat la.toNat, UInt64.ofNat n.toNat, UInt64.ofNat k.toNat, UInt64.ofNat g.toNat] = some (xhead ⟨la, n, k, g, l⟩) := by
  have h := xchk_all h
  have e1 : (UInt64.ofNat la.toNat).toNat = la.toNat := by rw [UInt64.toNat_ofNat']; omega
  have e2 : (UInt64.ofNat n.toNat).toNat = n.toNat := by rw [UInt64.toNat_ofNat']; omega
  have e3 : (UInt64.ofNat k.toNat).toNat = k.toNat := by rw [UInt64.toNat_ofNat']; omega
  have e4 : (UInt64.ofNat g.toNat).toNat = g.toNat := by rw [UInt64.toNat_ofNat']; omega
  have l1 : ltr ((98 : UInt8).toNat : Int) = 1 := by decide
  have l2 : ltr ((119 : UInt8).toNat : Int) = 4 := by decide
  simp only [packF, l1, l2, e1, e2, e3, e4]
  rw [if_neg (by simp [fitsB]; omega), if_neg (by simp [fitsB]; omega), if_neg (by simp [fitsB]; omega), if_neg (by simp [fitsB]; omega)]
  simp [xhead]
end Go.Wag
namespace Go.Proofs.Ytepaojegcaapfaa
open Go.RowKit Go.Wag
set_option linter.unusedVariables false
set_option maxRecDepth 20000
/-- The four numbers of an extent, in a row. -/
theorem xsl_head (w : World) {la n k g m : Int} (h : xchk la n k g m = true) :
    Sl (w.alloc (.cells #[.int .u64 la, .int .u64 n, .int .u64 k, .int .u64 g] 70)) (some ⟨w.heap.size, 0, none⟩) 4 4 ([UInt64.ofNat la.toNat, UInt64.ofNat n.toNat, UInt64.ofNat k.toNat, UInt64.ofNat g.toNat].map v64) := by
  have ha := xchk_all h
  have e1 : ((UInt64.ofNat la.toNat).toNat : Int) = la := by rw [xnat64 (by omega)]; omega
  have e2 : ((UInt64.ofNat n.toNat).toNat : Int) = n := by rw [xnat64 (by omega)]; omega
  have e3 : ((UInt64.ofNat k.toNat).toNat : Int) = k := by rw [xnat64 (by omega)]; omega
  have e5 : ((UInt64.ofNat g.toNat).toNat : Int) = g := by rw [xnat64 (by omega)]; omega
  have e4 : [UInt64.ofNat la.toNat, UInt64.ofNat n.toNat, UInt64.ofNat k.toNat, UInt64.ofNat g.toNat].map v64 = [.int .u64 la, .int .u64 n, .int .u64 k, .int .u64 g] := by
    simp only [List.map_cons, List.map_nil, v64, e1, e2, e3, e5]
  rw [e4]
  exact Sl.new w _ _ (by simp)
theorem xsl_one (w : World) {n : Nat} (h : n ≤ 64) : Sl (w.alloc (.cells #[.int .u64 (n : Int)] 70)) (some ⟨w.heap.size, 0, none⟩) 1 1 ([UInt64.ofNat n].map v64) := by
  have e1 : ((UInt64.ofNat n).toNat : Int) = n := xnat64 (by omega)
  have e4 : [UInt64.ofNat n].map v64 = [.int .u64 (n : Int)] := by
    simp only [List.map_cons, List.map_nil, v64, e1]
  rw [e4]
  exact Sl.new w _ _ (by simp)

set_option maxHeartbeats 2000000 in
theorem eWrite_any {F : Nat → Prop} (xs : List Xp) (A : Option Addr) (n c : Nat) (w : World) (h : Rs extE F w A n c xs) (hla : ∀ x ∈ xs, x.la ≤ 9223372036854775807) :
    Calls Try.prog 14 #[.slice A n c] w (BytesErr w (xwr xs) 70) := by
  have HN : Hid (xs.length = n) := h.len
  have hcap := h.cap
  have hbig := h.big
  obtain ⟨i0, hi, hz0, hz1, hz2⟩ := info_parts i5
  by_cases h64 : (n : Int) > 64
  · rw [xwr_long (by rw [HN.out]; omega)]
    go_enter Try.func14, Try.ntmps14
    go_wp2
    go_ret2
    exact ⟨none, 0, 0, rfl, Sl.nil _, Nw.nil _ _ _, Below.refl _ _⟩
  · have h64' : n ≤ 64 := by omega
    have c0 : (n : Int) % 18446744073709551616 = n := by omega
    go_enter Try.func14, Try.ntmps14
    go_wp2_with fail
    refine (BytesErr.ok (Pack_any ⟨#[98]⟩ _ 1 1 [UInt64.ofNat n] _ (by exact xsl_one w h64') (by decide)) (xpack1 h64')).mono ?_
    rintro e w1 ⟨A1, n1, c1, rfl, s1, f1, b1⟩
    replace b1 := xalloc_below b1
    replace f1 := f1.mono (w := w) (by simp)
    clear s1
    go_wp2_with fail
    go_loopg [4, 23] n (fun g o i wr => ∃ (k : Nat) (Ar : Option Addr) (nr cr : Nat), k + g = n ∧ o = .slice Ar nr cr ∧ i = .int .i64 (k : Int) ∧ nr ≤ 1 + 2055 * k ∧ Hid (xallok (xs.take k) = true) ∧ Nw 5 w wr Ar nr cr ((wrow xs k).map v8) ∧ Below w.heap.size w wr)
    case atStart =>
      refine ⟨0, _, _, _, by omega, rfl, rfl, ?_, rfl, ?_, b1⟩
      · have := f1.1
        simp at this
        omega
      · unfold wrow
        rw [HN.out]
        exact f1
    case round =>
      obtain ⟨k, Ar, nr, cr, hk, rfl, rfl, hnr, hok, O, bb⟩ := hrel
      by_cases hlt : (k : Int) < (n : Int)
      · obtain ⟨g, rfl⟩ : ∃ g, gk = g + 1 := ⟨gk - 1, by omega⟩
        obtain ⟨gb, o, x, Ai, ci, rfl, _, hg, hz, c0', c1', c2', c3', c4', hS, _⟩ := h.ext_at (show k < n by omega)
        have hlx := hla x (List.mem_iff_getElem?.2 ⟨k, hz⟩)
        have y0 := (bb.cell hg).trans c0'
        have y1 := (bb.cell hg).trans c1'
        have y2 := (bb.cell hg).trans c2'
        have y3 := (bb.cell hg).trans c3'
        have y4 := (bb.cell hg).trans c4'
        clear c0' c1' c2' c3' c4'
        obtain ⟨kx, hkx⟩ : ∃ q, wr.heap.size = q := ⟨_, rfl⟩
        have V := Blk.new wr #[.int .i64 x.la, .int .i64 x.n, .int .i64 x.k, .int .i64 x.g, .slice Ai x.l.length ci] 38
        rw [hkx] at V
        have hno : ∀ b, (Value.slice Ar nr cr).ownBlock = some b → b ≠ kx := fun b hb => by have := (World.ownsRow.lt O b hb).2; omega
        have hkw : w.heap.size ≤ kx := by rw [← hkx]; exact bb.size
        replace O : Nw _ _ _ _ _ _ _ := World.ownsRow.alloc O (.cells #[.int .i64 x.la, .int .i64 x.n, .int .i64 x.k, .int .i64 x.g, .slice Ai x.l.length ci] 38)
        replace bb := bb.alloc bb.size (.cells #[.int .i64 x.la, .int .i64 x.n, .int .i64 x.k, .int .i64 x.g, .slice Ai x.l.length ci] 38)
        obtain ⟨p0, p1, p2, p3, p4, _⟩ := V.five
        have hkx' : wr.heap.size = kx := hkx
        go_wp2_with fail
        refine (eCheck_any x.la x.n x.k x.g Ai x.l.length ci _ hlx).mono ?_
        rintro e w2 ⟨rfl, b2⟩
        replace V := V.under b2
        replace O := O.below b2
        replace bb := bb.trans (b2.mono bb.size)
        clear b2 p0 p1 p2 p3 p4 y0 y1 y2 y3 y4 hkx hkx'
        obtain ⟨p0, p1, p2, p3, p4, _⟩ := V.five
        cases r1 : xchk x.la x.n x.k x.g x.l.length
        · have hr := Lib.hid (xwr_bad hz r1)
          go_wp2
          go_ret2
          show BytesErr w (xwr xs) 70 _ _
          rw [hr.out]
          exact ⟨none, 0, 0, rfl, Sl.nil _, Nw.nil _ _ _, bb⟩
        · have ha := xchk_all r1
          have m0 : x.la % 18446744073709551616 = x.la := by omega
          have m1 : x.n % 18446744073709551616 = x.n := by omega
          have m2 : x.k % 18446744073709551616 = x.k := by omega
          have m3 : x.g % 18446744073709551616 = x.g := by omega
          have hlen := Xp.len_le (x := x) r1
          have hok2 := Lib.hid (xallok_succ hz hok.out r1)
          have hws := Lib.hid (wrow_succ hz)
          clear ha
          go_wp2_with fail
          refine (BytesErr.ok (Pack_any ⟨#[98, 98, 98, 119]⟩ _ 4 4 [UInt64.ofNat x.la.toNat, UInt64.ofNat x.n.toNat, UInt64.ofNat x.k.toNat, UInt64.ofNat x.g.toNat] _ (by exact xsl_head w2 r1) (by decide)) (xpack_head r1 x.l)).mono ?_
          rintro e w3 ⟨A3, n3, c3, rfl, s3, f3, b3⟩
          replace b3 := xalloc_below b3
          obtain rfl : n3 = 7 := by have := s3.len8; rw [xhead_length] at this; exact this.symm
          replace V := V.under b3
          replace O := O.below b3
          replace bb := bb.trans (b3.mono bb.size)
          clear b3 p0 p1 p2 p3 p4 m0 m1 m2 m3 f3
          have HO := Own.start O bb.size
          go_upto_region 11 with (at_builtin
                                  refine wpList_app rfl (.tmp 47) (.tmp 48) 23 rfl rfl HO i0 (.int .u8 0) 1 Try.underlying23 hi hz0 hz1 hz2 rfl _ _ _ _ rfl s3 (oneCell8 _) (by omega) (by omega) ?_
                                  intro A4 c4 w4 hw4)
          have b4 := own_below O hw4 bb
          have V4 := V.own hw4 hno
          have O4 := hw4.own
          have hs4 := hS.below b4
          have HO4 := Own.start O4 b4.size
          clear HO V O bb s3
          obtain ⟨p0, p1, p2, p3, p4, _⟩ := V4.five
          go_wp2_with (at_builtin
                       refine wpList_app rfl (.tmp 50) (.tmp 52) 23 rfl rfl HO4 i0 (.int .u8 0) 1 Try.underlying23 hi hz0 hz1 hz2 rfl _ _ _ _ rfl hs4 (oneCell8 _) (by omega) (by omega) ?_
                       intro A5 c5 w5 hw5)
          go_roundg g
          case measure => omega
          case rel =>
            refine ⟨k + 1, A5, _, c5, by omega, rfl, by first | rfl | (simp; done) | (simp; exact wrap64_small (by omega) (by omega)), by omega, hok2, ?_, own_below O4 hw5 b4⟩
            rw [hws.out]
            have := hw5.own
            rw [← List.map_append, ← List.map_append] at this
            exact this
      · obtain rfl : k = n := by omega
        have hr := Lib.hid (wrow_end HN.out h64' hok.out)
        go_wp2
        go_ret2
        show BytesErr w (xwr xs) 70 _ _
        rw [hr.out]
        exact ⟨_, _, _, rfl, Sl.of_own O, O, bb⟩
end Go.Proofs.Ytepaojegcaapfaa
