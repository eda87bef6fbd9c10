/-
  Contracts of package crc's Sum, Seal and Open.
-/
import Derived.Test.YtjhpjhgofmlecaaDoorCrcFns
import Derived.Test.YtjhpjhgofmlecaaDoorLeAwake
namespace Go.Proofs.YtjhpjhgofmlecaaDoor
open Go.RowKit Go.Wag
set_option linter.unusedVariables false

theorem Sum_any (A : Option Addr) (n c : Nat) (l : List UInt8) (w : World) (hT : Tab w) (h : Sl w A n c (l.map v8)) :
    Calls Tryd.prog 36 #[.slice A n c] w fun e w' => e = .returned (.int .u32 ((moreF 0#32 l).toNat : Int)) ∧ w = w' := by
  go_enter Tryd.func36, Tryd.ntmps36
  go_wp2_with fail
  refine Calls.mono (show Calls _ _ _ _ _ from More_any 0#32 A n c l w hT h) ?_
  rintro e w1 ⟨rfl, rfl⟩
  go_wp2
  go_ret
  exact ⟨rfl, rfl⟩

/-- New bytes; nothing old has turned. -/
def BytesNew (w : World) (r : List UInt8) (e : Ending) (w' : World) : Prop :=
  ∃ A n c, e = .returned (.slice A n c) ∧ Sl w' A n c (r.map v8) ∧ Nw 5 w w' A n c (r.map v8) ∧ Below w.heap.size w w'

theorem seal_put (l : List UInt8) (x : W32) (hx : x = moreF 0#32 l) : putF l ((x.toNat : Int)).toNat 4 = some (sealF l) := by
  have h := w32_lt x
  rw [putF_yes rfl (by rw [Int.toNat_natCast]; simpa [fitsB] using h), Int.toNat_natCast, hx]
  rfl
theorem conv64 (x : W32) : (x.toNat : Int) % 18446744073709551616 = (x.toNat : Int) := by have := w32i x; omega

set_option maxHeartbeats 400000 in
theorem Seal_any (A : Option Addr) (n c : Nat) (l : List UInt8) (w : World) (hT : Tab w) (h : Sl w A n c (l.map v8)) (hn : n ≤ 10000000000000) :
    Calls Tryd.prog 24 #[.slice A n c] w (BytesNew w (sealF l)) := by
  obtain ⟨x, hx⟩ : ∃ x, Aside (x = moreF 0#32 l) := ⟨_, rfl⟩
  have hc := conv64 x
  go_enter Tryd.func24, Tryd.ntmps24
  go_wp2_with fail
  refine (Sum_any A n c l w hT h).mono ?_
  rintro e w1 ⟨rfl, rfl⟩
  rw [← hx.out]
  go_wp2_with fail
  refine (BytesErr.ok (Put_any A n c l (x.toNat : Int) 4 w h hn (by omega) (by have := w32i x; omega)) (seal_put l x hx.out)).mono ?_
  rintro e w2 ⟨A2, n2, c2, rfl, s2, f2, b2⟩
  go_wp2
  go_ret
  exact ⟨A2, n2, c2, rfl, s2, f2, b2⟩

/-- Open's test: the last four bytes are the sum of those ahead. -/
theorem open_yes {l : List UInt8} (h4 : 4 ≤ l.length) (h : lev (l.drop (l.length - 4)) = (moreF 0#32 (l.take (l.length - 4))).toNat) : openF l = some (l.take (l.length - 4)) := by
  unfold openF
  rw [if_pos]
  refine ⟨h4, ?_⟩
  unfold sealF
  rw [← h]
  have hl : (l.drop (l.length - 4)).length = 4 := by rw [List.length_drop]; omega
  have e : leb 4 (lev (l.drop (l.length - 4))) = l.drop (l.length - 4) := by
    have := leb_lev (l.drop (l.length - 4))
    rwa [hl] at this
  rw [e, List.take_append_drop]
theorem open_no {l : List UInt8} (h4 : 4 ≤ l.length) (h : ¬ lev (l.drop (l.length - 4)) = (moreF 0#32 (l.take (l.length - 4))).toNat) : openF l = none := by
  unfold openF
  rw [if_neg]
  rintro ⟨_, hs⟩
  apply h
  have e : l.drop (l.length - 4) = leb 4 (moreF 0#32 (l.take (l.length - 4))).toNat := by
    have hd := congrArg (List.drop (l.length - 4)) hs
    unfold sealF at hd
    rw [List.drop_append_of_le_length (by rw [List.length_take]; omega), List.drop_eq_nil_of_le (by rw [List.length_take]; omega), List.nil_append] at hd
    exact hd.symm
  rw [e, lev_leb _ _ (w32_lt _)]
theorem open_short {l : List UInt8} (h4 : ¬ 4 ≤ l.length) : openF l = none := by
  unfold openF
  rw [if_neg (fun h => h4 h.1)]

set_option maxHeartbeats 400000 in
theorem Open_any (A : Option Addr) (n c : Nat) (l : List UInt8) (w : World) (hT : Tab w) (h : Sl w A n c (l.map v8)) (hn : n ≤ 10000000000000) :
    Calls Tryd.prog 28 #[.slice A n c] w (BytesErr w (openF l) 20) := by
  have HN : Hid (l.length = n) := h.len8
  have hcap := h.cap
  have hbig := h.big
  obtain ⟨i0, hi, hz0, hz1, hz2⟩ := info_parts i5
  by_cases h4 : (n : Int) < 4
  · rw [open_short (by rw [HN.out]; omega)]
    go_enter Tryd.func28, Tryd.ntmps28
    go_wp2
    go_ret2
    exact ⟨none, 0, 0, rfl, Sl.nil _, Nw.nil _ _ _, Below.refl _ _⟩
  · obtain ⟨m, rfl⟩ : ∃ m, n = m + 4 := ⟨n - 4, by omega⟩
    have hcut := fun W => run_cut (P := Tryd.prog) 23 5 un22 el22 sz5 A (m + 4) c .i64 (m : Int) m rfl (by omega) W
    simp only [Nat.add_sub_cancel_left] at hcut
    have hsub : ((m : Int) + 4 - 4) = (m : Int) := by omega
    have HC := h.from_ (k := m) (by omega)
    rw [Nat.add_sub_cancel_left, ← List.map_drop] at HC
    have HU := h.upto (m := m) (by omega)
    rw [← List.map_take] at HU
    have HD : Hid (takeF (l.drop m) 4 = some (lev (l.drop m), [])) := by
      show takeF (l.drop m) 4 = _
      have hl : (l.drop m).length = 4 := by rw [List.length_drop, HN.out]; omega
      rw [takeF_yes rfl (by rw [hl]; decide)]
      show some (lev ((l.drop m).take 4), (l.drop m).drop 4) = _
      rw [List.take_of_length_le (show (l.drop m).length ≤ 4 by omega), List.drop_eq_nil_of_le (show (l.drop m).length ≤ 4 by omega)]
    obtain ⟨x, hx⟩ : ∃ x, Aside (x = moreF 0#32 (l.take m)) := ⟨_, rfl⟩
    have hc := conv64 x
    have hmk := fun W => run_mk (P := Tryd.prog) 23 5 i0 (.int .u8 0) 1 Tryd.underlying23 hi hz0 hz1 hz2 rfl .i64 .i64 (m : Int) (m : Int) m m rfl rfl (by omega) (by omega) (by omega) W
    have hl : Hid (l.length - 4 = m) := by show l.length - 4 = m; rw [HN.out]; omega
    cases ht : ((lev (l.drop m) : Int) != (x.toNat : Int))
    · have HY := open_yes (l := l) (by rw [HN.out]; omega) (by rw [hl.out, ← hx.out]; have : (lev (l.drop m) : Int) = (x.toNat : Int) := by simpa using ht
                                                               omega)
      rw [hl.out] at HY
      rw [HY]
      clear HY
      go_enter Tryd.func28, Tryd.ntmps28
      go_wp2_with fail
      refine (NumErr.ok (Take_any _ 4 _ (l.drop m) 4 w HC (by omega)) HD.out).mono ?_
      rintro e w2 ⟨A2, n2, c2, rfl, s2, f2, b2⟩
      have hT2 := hT.below b2
      have HU2 := HU.below b2
      have h2 := h.below b2
      go_wp2_with fail
      refine (Sum_any A m c (l.take m) w2 hT2 HU2).mono ?_
      rintro e w3 ⟨rfl, rfl⟩
      rw [← hx.out]
      have HO := Own.made w2 (.int .u8 0) 5 m m (by omega) (by omega)
      have HC2 := h2.alloc (.cells (mk0 (.int .u8 0) m) 5)
      go_wp2_with (with_reducible refine wpList_cpy rfl (.tmp 36) (.tmp 37) 23 23 rfl rfl HO Tryd.underlying23 sz5 _ _ _ _ rfl HC2 (oneCell8 l) ?_; intro w4 hw4)
      have e4 : (l.map v8).take m ++ (List.replicate m (Value.int .u8 0)).drop (m + 4) = (l.take m).map v8 := by
        rw [List.drop_eq_nil_of_le (by simp), List.append_nil, List.map_take]
      rw [e4] at hw4
      have hB := hw4.below_made
      go_wp2
      go_ret2
      exact ⟨_, _, _, rfl, hw4.to_sl, hw4.fresh.mono b2.size, b2.trans (hB.mono b2.size)⟩
    · have HY := open_no (l := l) (by rw [HN.out]; omega) (by rw [hl.out, ← hx.out]; have : ¬ (lev (l.drop m) : Int) = (x.toNat : Int) := by simpa using ht
                                                              omega)
      rw [HY]
      clear HY
      go_enter Tryd.func28, Tryd.ntmps28
      go_wp2_with fail
      refine (NumErr.ok (Take_any _ 4 _ (l.drop m) 4 w HC (by omega)) HD.out).mono ?_
      rintro e w2 ⟨A2, n2, c2, rfl, s2, f2, b2⟩
      have hT2 := hT.below b2
      have HU2 := HU.below b2
      have h2 := h.below b2
      go_wp2_with fail
      refine (Sum_any A m c (l.take m) w2 hT2 HU2).mono ?_
      rintro e w3 ⟨rfl, rfl⟩
      rw [← hx.out]
      go_wp2
      go_ret2
      exact ⟨none, 0, 0, rfl, Sl.nil _, Nw.nil _ _ _, b2⟩
end Go.Proofs.YtjhpjhgofmlecaaDoor
