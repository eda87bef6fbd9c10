/-
  Contracts of package record: Write; and of the document's Check, Size, Write.
-/
import Derived.Test.YtjhpjhgofmlecaaDoorRec1
import Derived.Test.YtjhpjhgofmlecaaDoorCrcTellsWalk
namespace Go.Proofs.YtjhpjhgofmlecaaDoor
open Go.RowKit Go.Wag
set_option linter.unusedVariables false

theorem rchkE_yes {k s n : Int} (h : rchk k s n = true) : rchkE k s n = 0 := by simp [rchkE, h]
theorem rchkE_no {k s n : Int} (h : rchk k s n = false) : rchkE k s n = 50 := by simp [rchkE, h]

/-- The four numbers of a head, in a row. -/
theorem sl_head (w : World) {k s : Int} {n : Nat} (h : rchk k s n = true) :
    Sl (w.alloc (.cells #[.int .u64 1196184151, .int .u64 k, .int .u64 (n : Int), .int .u64 s] 46)) (some ⟨w.heap.size, 0, none⟩) 4 4 ([1196184151, UInt64.ofNat k.toNat, UInt64.ofNat n, UInt64.ofNat s.toNat].map v64) := by
  have ha := rchk_all h
  have e1 : ((UInt64.ofNat k.toNat).toNat : Int) = k := by rw [nat64 (by omega)]; omega
  have e2 : ((UInt64.ofNat n).toNat : Int) = n := nat64 (by omega)
  have e3 : ((UInt64.ofNat s.toNat).toNat : Int) = s := by rw [nat64 (by omega)]; omega
  have e4 : [1196184151, UInt64.ofNat k.toNat, UInt64.ofNat n, UInt64.ofNat s.toNat].map v64 = [.int .u64 1196184151, .int .u64 k, .int .u64 (n : Int), .int .u64 s] := by
    simp only [List.map_cons, List.map_nil, v64, e1, e2, e3]
    rfl
  rw [e4]
  exact Sl.new w _ _ (by simp)

theorem wr_yes {k s : Int} {n : Nat} {l : List UInt8} (hl : l.length = n) (h : rchk k s n = true) : wrF ⟨k, s, l⟩ = some (sealF (headF k.toNat n s.toNat ++ l)) := by
  rw [wrF_yes (by unfold Rp.ok; rw [hl]; exact h)]
  unfold recB
  rw [hl]
theorem wr_no {k s : Int} {n : Nat} {l : List UInt8} (hl : l.length = n) (h : rchk k s n = false) : wrF ⟨k, s, l⟩ = none := wrF_no (by unfold Rp.ok; rw [hl]; exact h)

set_option maxHeartbeats 1000000 in
theorem rWrite_any (k s : Int) (A : Option Addr) (n c : Nat) (l : List UInt8) (w : World) (hT : Tab w) (h : Sl w A n c (l.map v8)) :
    Calls Tryd.prog 10 #[.agg #[.int .i64 k, .int .i64 s, .slice A n c]] w (BytesErr w (wrF ⟨k, s, l⟩) 50) := by
  have HN : Hid (l.length = n) := h.len8
  have hcap := h.cap
  have hbig := h.big
  obtain ⟨i0, hi, hz0, hz1, hz2⟩ := info_parts i5
  have bb := (Below.refl w.heap.size w).alloc (Nat.le_refl _) (.cells #[.int .i64 k, .int .i64 s, .slice A n c] 25)
  have V := Blk.new w #[.int .i64 k, .int .i64 s, .slice A n c] 25
  have hT0 := hT
  cases hk : rchk k s n
  · rw [wr_no HN.out hk]
    have he := rchkE_no hk
    go_enter Tryd.func10, Tryd.ntmps10
    go_wp2_with fail
    refine (rCheck_any k s A n c _).mono ?_
    rintro e w1 ⟨rfl, b1⟩
    replace bb := bb.trans (b1.mono bb.size)
    go_wp2
    go_ret2
    exact ⟨none, 0, 0, rfl, Sl.nil _, Nw.nil _ _ _, bb⟩
  · rw [wr_yes HN.out hk]
    have he := rchkE_yes hk
    have ha := rchk_all hk
    have c1 : k % 18446744073709551616 = k := by omega
    have c2 : (n : Int) % 18446744073709551616 = n := by omega
    have c3 : s % 18446744073709551616 = s := by omega
    replace h := h.alloc (.cells #[.int .i64 k, .int .i64 s, .slice A n c] 25)
    replace hT := hT.below bb
    go_enter Tryd.func10, Tryd.ntmps10
    go_wp2_with fail
    refine (rCheck_any k s A n c _).mono ?_
    rintro e w1 ⟨rfl, b1⟩
    replace V := V.under b1
    replace h := h.below b1
    replace hT := hT.below b1
    replace bb := bb.trans (b1.mono bb.size)
    clear b1
    obtain ⟨q0, q1, q2, r0, r1, r2⟩ := V.three
    go_wp2_with fail
    clear q0 q1 q2 r0 r1 r2
    refine (BytesErr.ok (Pack_any ⟨#[119, 104, 104, 113]⟩ _ 4 4 [1196184151, UInt64.ofNat k.toNat, UInt64.ofNat n, UInt64.ofNat s.toNat] _ (by exact sl_head w1 hk) (by decide)) (pack_head hk)).mono ?_
    rintro e w2 ⟨A2, n2, c2, rfl, s2, f2, b2⟩
    replace b2 := alloc_below b2
    obtain rfl : n2 = 16 := by have := s2.len8; rw [headF_length] at this; exact this.symm
    replace V := V.under b2
    replace h := h.below b2
    replace hT := hT.below b2
    replace f2 := f2.mono (w := w) (Nat.le_trans bb.size (by simp))
    replace bb := bb.trans (b2.mono bb.size)
    clear b2 s2
    obtain ⟨q0, q1, q2, r0, r1, r2⟩ := V.three
    have HO := Own.start f2 bb.size
    go_wp2_with (at_builtin; refine wpList_app rfl (.tmp 27) (.tmp 29) 23 rfl rfl HO i0 (.int .u8 0) 1 Tryd.underlying23 hi hz0 hz1 hz2 rfl _ _ _ _ rfl h (oneCell8 _) ?_ ?_ ?_)
    · omega
    · omega
    intro A3 c3' w3 hw3
    rw [← List.map_append] at hw3
    have hb3 := own_below f2 hw3 bb
    have s3 := hw3.to_sl
    replace hT := (hT0.below hb3)
    go_wp2_with fail
    refine (Seal_any _ _ _ _ w3 hT s3 (by omega)).mono ?_
    rintro e w4 ⟨A4, n4, c4, rfl, s4, f4, b4⟩
    go_wp2
    go_ret2
    exact ⟨_, _, _, rfl, s4, f4.mono hb3.size, hb3.trans (b4.mono hb3.size)⟩
end Go.Proofs.YtjhpjhgofmlecaaDoor
