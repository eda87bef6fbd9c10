/-
  The calls at every statement's head of stage 5 answer as the document says (written by gen_recawake.py).
-/
import Derived.Test.YtjhpjhgofmlecaaDoorRec6
import Derived.Test.YtjhpjhgofmlecaaDoorCrcAwake
namespace Go.Wag
open Go.RowKit
theorem Own.below_made1 {e : TypeId} {W w' : World} {o o' : Obj} {A : Option Addr} {n c m : Nat} {xs : List Value} {n0 c0 : Nat} (h : Own (W.heap.size + 1) e ((W.alloc o).alloc o') w' (.slice (some ⟨W.heap.size + 1, 0, none⟩) n0 c0) (.slice A n c) m xs) : Below (W.alloc o).heap.size (W.alloc o) w' := by
  have e1 : (W.alloc o).heap.size = W.heap.size + 1 := World.size_alloc W o
  exact Own.below_made (W := W.alloc o) (by rw [e1]; exact h)
theorem rec_rd : rdF (recB ⟨1, 9, [98, 111, 100, 121]⟩) = some (⟨1, 9, [98, 111, 100, 121]⟩, 24) := by
  rw [rd_rec0 (r := ⟨1, 9, [98, 111, 100, 121]⟩) (by decide), recB_length]
  rfl
theorem rec_8 : (recB ⟨1, 9, [98, 111, 100, 121]⟩).take 8 = [87, 82, 76, 71, 1, 0, 4, 0] := by
  have h : headF 1 4 9 = [87, 82, 76, 71, 1, 0, 4, 0, 9, 0, 0, 0, 0, 0, 0, 0] := by decide
  unfold recB sealF
  rw [List.append_assoc, List.take_append_of_le_length (by rw [headF_length]; omega)]
  show (headF 1 4 9).take 8 = _
  rw [h]
  rfl
theorem rec_two : scF (recB ⟨1, 9, [98, 111, 100, 121]⟩ ++ recB ⟨1, 9, [98, 111, 100, 121]⟩) 0 = [(⟨1, 9, [98, 111, 100, 121]⟩, 0), (⟨1, 9, [98, 111, 100, 121]⟩, 24)] := by
  have h := sc_recs (rs := [⟨1, 9, [98, 111, 100, 121]⟩, ⟨1, 9, [98, 111, 100, 121]⟩]) (by
    intro r hr
    rcases List.mem_cons.1 hr with rfl | hr
    · decide
    · rcases List.mem_cons.1 hr with rfl | hr
      · decide
      · cases hr)
  have e : allB [⟨1, 9, [98, 111, 100, 121]⟩, ⟨1, 9, [98, 111, 100, 121]⟩] = recB ⟨1, 9, [98, 111, 100, 121]⟩ ++ recB ⟨1, 9, [98, 111, 100, 121]⟩ := by simp [allB]
  rw [e] at h
  rw [h]
  simp only [laidAt, recB_length]
  rfl
end Go.Wag
namespace Go.Proofs.YtjhpjhgofmlecaaDoor
open Go.RowKit Go.Wag
set_option linter.unusedVariables false
set_option linter.unusedSimpArgs false

set_option maxRecDepth 100000 in
set_option maxHeartbeats 2000000 in
theorem awake5_any (w : World) (hT : Tab w) : Calls Tryd.prog 9 #[] w (AwakePost w) := by
  have bb := Below.refl w.heap.size w
  have hkc := kc
  obtain ⟨i0, hi, hz0, hz1, hz2⟩ := info_parts i5
  go_enter Tryd.func9, Tryd.ntmps9
  replace hT := hT.alloc (.cells #[.int .u8 98, .int .u8 111, .int .u8 100, .int .u8 121] 5 (4, 5))
  replace bb := bb.alloc bb.size (.cells #[.int .u8 98, .int .u8 111, .int .u8 100, .int .u8 121] 5 (4, 5))
  have sb := (show Sl (w.alloc (.cells #[.int .u8 98, .int .u8 111, .int .u8 100, .int .u8 121] 5 (4, 5))) (some ⟨w.heap.size, 0, none⟩) 4 4 (([98, 111, 100, 121] : List UInt8).map v8) from slm w [98, 111, 100, 121] (4, 5) (by decide))
  replace hT := hT.alloc (.cells #[.int .i64 1, .int .i64 9, .slice (some ⟨w.heap.size, 0, none⟩) 4 4] 25)
  replace sb := sb.alloc (.cells #[.int .i64 1, .int .i64 9, .slice (some ⟨w.heap.size, 0, none⟩) 4 4] 25)
  replace bb := bb.alloc bb.size (.cells #[.int .i64 1, .int .i64 9, .slice (some ⟨w.heap.size, 0, none⟩) 4 4] 25)
  have Bv := Blk.new (w.alloc (.cells #[.int .u8 98, .int .u8 111, .int .u8 100, .int .u8 121] 5 (4, 5))) #[.int .i64 1, .int .i64 9, .slice (some ⟨w.heap.size, 0, none⟩) 4 4] 25
  simp only [World.size_alloc] at Bv
  go_wp2_with fail
  generalize ((w.alloc (.cells #[.int .u8 98, .int .u8 111, .int .u8 100, .int .u8 121] 5 (4, 5))).alloc (.cells #[.int .i64 1, .int .i64 9, .slice (some ⟨w.heap.size, 0, none⟩) 4 4] 25)) = W1 at *
  clear hkc
  have hC := BytesErr.ok (rWrite_any 1 9 (some ⟨w.heap.size, 0, none⟩) 4 4 [98, 111, 100, 121] W1 hT sb) (wrF_yes (r := ⟨1, 9, [98, 111, 100, 121]⟩) (by decide))
  refine hC.mono ?_
  clear hC
  rintro e w1 ⟨A1, n1, c1, rfl, s1, f1, b1⟩
  replace hT := hT.below b1
  replace sb := sb.below b1
  replace Bv := Bv.under b1
  replace bb := bb.trans (b1.mono bb.size)
  obtain rfl : n1 = 24 := by have := s1.len8; rw [recB_length] at this; exact this.symm
  clear f1 b1
  have HR : Hid (rdF (recB ⟨1, 9, [98, 111, 100, 121]⟩) = some (⟨1, 9, [98, 111, 100, 121]⟩, 24)) := rec_rd
  have HS : Hid (scF (recB ⟨1, 9, [98, 111, 100, 121]⟩ ++ recB ⟨1, 9, [98, 111, 100, 121]⟩) 0 = [(⟨1, 9, [98, 111, 100, 121]⟩, 0), (⟨1, 9, [98, 111, 100, 121]⟩, 24)]) := rec_two
  have H8 : Hid ((recB ⟨1, 9, [98, 111, 100, 121]⟩).take 8 = [87, 82, 76, 71, 1, 0, 4, 0]) := rec_8
  generalize recB ⟨1, 9, [98, 111, 100, 121]⟩ = L at *
  have hc1 := s1.cap
  have hbig1 := s1.big
  go_wp2_with fail
  have hC := RecErr.ok (rRead_any A1 24 c1 L w1 hT s1 (by decide)) HR.out
  refine hC.mono ?_
  clear hC
  rintro e w2 ⟨A2, m2, c2, hm2, rfl, s2, f2, b2⟩
  replace hT := hT.below b2
  replace sb := sb.below b2
  replace Bv := Bv.under b2
  replace s1 := s1.below b2
  replace bb := bb.trans (b2.mono bb.size)
  obtain rfl : m2 = 4 := hm2
  clear f2 b2
  replace hT := hT.alloc (.cells #[.int .i64 1, .int .i64 9, .slice A2 4 c2] 25)
  replace sb := sb.alloc (.cells #[.int .i64 1, .int .i64 9, .slice A2 4 c2] 25)
  replace Bv := Bv.alloc (.cells #[.int .i64 1, .int .i64 9, .slice A2 4 c2] 25)
  replace s1 := s1.alloc (.cells #[.int .i64 1, .int .i64 9, .slice A2 4 c2] 25)
  replace s2 := s2.alloc (.cells #[.int .i64 1, .int .i64 9, .slice A2 4 c2] 25)
  replace bb := bb.alloc bb.size (.cells #[.int .i64 1, .int .i64 9, .slice A2 4 c2] 25)
  have Bq := Blk.new w2 #[.int .i64 1, .int .i64 9, .slice A2 4 c2] 25
  go_wp2_with fail
  generalize (w2.alloc (.cells #[.int .i64 1, .int .i64 9, .slice A2 4 c2] 25)) = W2 at *
  have hC := RecErr.no (rRead_any none 0 0 [] W2 hT (Sl.nil _) (by decide)) rd_nil
  refine hC.mono ?_
  clear hC
  rintro e w3 ⟨rfl, b3⟩
  replace hT := hT.below b3
  replace sb := sb.below b3
  replace Bv := Bv.under b3
  replace s1 := s1.below b3
  replace s2 := s2.below b3
  replace Bq := Bq.under b3
  replace bb := bb.trans (b3.mono bb.size)
  clear b3
  replace hT := hT.alloc (.cells #[.int .i64 0, .int .i64 0, .slice none 0 0] 25)
  replace sb := sb.alloc (.cells #[.int .i64 0, .int .i64 0, .slice none 0 0] 25)
  replace Bv := Bv.alloc (.cells #[.int .i64 0, .int .i64 0, .slice none 0 0] 25)
  replace s1 := s1.alloc (.cells #[.int .i64 0, .int .i64 0, .slice none 0 0] 25)
  replace s2 := s2.alloc (.cells #[.int .i64 0, .int .i64 0, .slice none 0 0] 25)
  replace Bq := Bq.alloc (.cells #[.int .i64 0, .int .i64 0, .slice none 0 0] 25)
  replace bb := bb.alloc bb.size (.cells #[.int .i64 0, .int .i64 0, .slice none 0 0] 25)
  have HO := Own.empty (w3.alloc (.cells #[.int .i64 0, .int .i64 0, .slice none 0 0] 25)) 5
  simp only [World.size_alloc] at HO
  have HC := s1.alloc (.cells #[] 5)
  go_wp2_with (at_builtin; refine wpList_app rfl (.tmp 33) (.tmp 34) 23 rfl rfl HO i0 (.int .u8 0) 1 Tryd.underlying23 hi hz0 hz1 hz2 rfl _ _ _ _ rfl HC (oneCell8 _) ?_ ?_ ?_)
  · omega
  · omega
  intro A4 c4 w4 hw4
  have s14 := s1.below hw4.below_made1
  go_wp2_with (at_builtin; refine wpList_app rfl (.tmp 35) (.tmp 36) 23 rfl rfl hw4 i0 (.int .u8 0) 1 Tryd.underlying23 hi hz0 hz1 hz2 rfl _ _ _ _ rfl s14 (oneCell8 _) ?_ ?_ ?_)
  · omega
  · omega
  intro A5 c5 w5 hw5
  have b5 := hw5.below_made1
  replace hT := hT.below b5
  replace sb := sb.below b5
  replace Bv := Bv.under b5
  replace s1 := s1.below b5
  replace s2 := s2.below b5
  replace Bq := Bq.under b5
  replace bb := bb.trans (b5.mono bb.size)
  have s5 := hw5.to_sl
  rw [← List.map_append] at s5
  clear hw4 hw5 HO HC s14 b5
  go_wp2_with fail
  have hC := rScan_any A5 _ c5 (L ++ L) w5 hT s5 (by omega)
  rw [HS.out] at hC
  refine hC.mono ?_
  clear hC
  rintro e w6 ⟨A6, k6, c6, A7, c7, hk6, rfl, R6, N7, b6⟩
  obtain rfl : k6 = 2 := hk6
  have s7 : Sl w6 A7 2 c7 ([0, 24].map vint) := by simpa using N7.sl
  clear s5 N7 HS HR
  replace hT := hT.below b6
  replace sb := sb.below b6
  replace Bv := Bv.under b6
  replace s1 := s1.below b6
  replace s2 := s2.below b6
  replace Bq := Bq.under b6
  replace bb := bb.trans (b6.mono bb.size)
  clear b6
  obtain ⟨Bqq0, Bqq1, Bqq2, Bqr0, Bqr1, Bqr2⟩ := Bq.three
  have Bql := Bq.lt
  obtain ⟨Bvq0, Bvq1, Bvq2, Bvr0, Bvr1, Bvr2⟩ := Bv.three
  have Bvl := Bv.lt
  go_wp2_with fail
  clear Bqq0 Bqq1 Bqq2 Bqr0 Bqr1 Bqr2
  clear Bvq0 Bvq1 Bvq2 Bvr0 Bvr1 Bvr2
  have hC := recSame_any 1 9 A2 4 c2 [98, 111, 100, 121] 1 9 (some ⟨w.heap.size, 0, none⟩) 4 4 [98, 111, 100, 121] w6 s2 sb
  refine hC.mono ?_
  clear hC
  rintro e w8 ⟨rfl, b8⟩
  replace hT := hT.below b8
  replace sb := sb.below b8
  replace Bv := Bv.under b8
  replace s1 := s1.below b8
  replace s2 := s2.below b8
  replace Bq := Bq.under b8
  replace s7 := s7.below b8
  replace bb := bb.trans (b8.mono bb.size)
  rw [sameR_self]
  clear b8
  have s18 := s1.upto (m := 8) (by decide)
  rw [← List.map_take, H8.out] at s18
  clear H8
  go_wp2_with fail
  refine wp_region_held_drew (S := fun w' => Below w8.heap.size w8 w') (by kernel_rfl) (Below.refl _ _).drew (fun hHeld => ?_)
  try dsimp only at hHeld
  have bd : Below w8.heap.size w8 w8.drew := (Below.refl w8.heap.size w8).drew
  generalize w8.drew = wd at *
  try simp only [Act.put, List.setIfInBounds_toArray, List.set_cons_zero, List.set_cons_succ]
  refine wpAnyH_ready (rs := [0]) (by kernel_rfl) (by simp) ?_
  refine AllReadyH.cons (by simp only [List.getElem?_toArray, List.getElem?_cons_zero]; rfl) (fun K hK => ?_) AllReadyH.nil
  have hC := named (rSize_any 0 wd)
  rw [show rsizeF 0 = 20 by decide] at hC
  go_simp
  refine hC.mono ?_
  clear hC
  rintro e x1 ⟨rfl, bx⟩
  replace bd := bd.trans (bx.mono bd.size)
  clear bx
  go_wp2_with fail
  refine hK.out _ _ (bd) (fun hHeld => ?_)
  clear hK K
  try dsimp only at hHeld
  try simp only [Act.put, List.setIfInBounds_toArray, List.set_cons_zero, List.set_cons_succ]
  refine wpAnyH_take (i := 1) (v := ?_) (by simp only [List.getElem?_toArray, List.getElem?_cons_succ, List.getElem?_cons_zero]; rfl) (by kernel_rfl) (by kernel_rfl) (by kernel_rfl) (by intro _ _ _ h; exact h) (Or.inl ⟨by rfl, ?_⟩) hHeld ?_
  rotate_left 1
  · intro wq hSw
    try dsimp only at hSw
    go_simp
    try (with_reducible rfl)
  try simp only [Act.put, List.setIfInBounds_toArray, List.set_cons_zero, List.set_cons_succ]
  refine wpAnyH_take (i := 2) (v := ?_) (by simp only [List.getElem?_toArray, List.getElem?_cons_succ, List.getElem?_cons_zero]; rfl) (by kernel_rfl) (by kernel_rfl) (by kernel_rfl) (by intro _ _ _ h; exact h) (Or.inl ⟨by rfl, ?_⟩) hHeld ?_
  rotate_left 1
  · intro wq hSw
    try dsimp only at hSw
    go_simp
    try (with_reducible rfl)
  try simp only [Act.put, List.setIfInBounds_toArray, List.set_cons_zero, List.set_cons_succ]
  refine wpAnyH_ready (rs := [3]) (by kernel_rfl) (by simp) ?_
  refine AllReadyH.cons (by simp only [List.getElem?_toArray, List.getElem?_cons_succ, List.getElem?_cons_zero]; rfl) (fun K hK => ?_) AllReadyH.nil
  have hC := named (rSize_any 4097 x1)
  rw [show rsizeF 4097 = 0 by decide] at hC
  go_simp
  refine hC.mono ?_
  clear hC
  rintro e x2 ⟨rfl, bx⟩
  replace bd := bd.trans (bx.mono bd.size)
  clear bx
  go_wp2_with fail
  refine hK.out _ _ (bd) (fun hHeld => ?_)
  clear hK K
  try dsimp only at hHeld
  try simp only [Act.put, List.setIfInBounds_toArray, List.set_cons_zero, List.set_cons_succ]
  refine wpAnyH_take (i := 4) (v := ?_) (by simp only [List.getElem?_toArray, List.getElem?_cons_succ, List.getElem?_cons_zero]; rfl) (by kernel_rfl) (by kernel_rfl) (by kernel_rfl) (by intro _ _ _ h; exact h) (Or.inl ⟨by rfl, ?_⟩) hHeld ?_
  rotate_left 1
  · intro wq hSw
    try dsimp only at hSw
    go_simp
    try (with_reducible rfl)
  try simp only [Act.put, List.setIfInBounds_toArray, List.set_cons_zero, List.set_cons_succ]
  refine wpAnyH_take (i := 5) (v := ?_) (by simp only [List.getElem?_toArray, List.getElem?_cons_succ, List.getElem?_cons_zero]; rfl) (by kernel_rfl) (by kernel_rfl) (by kernel_rfl) (by intro _ _ _ h; exact h) (Or.inl ⟨by rfl, ?_⟩) hHeld ?_
  rotate_left 1
  · intro wq hSw
    try dsimp only at hSw
    go_simp
    try (with_reducible rfl)
  try simp only [Act.put, List.setIfInBounds_toArray, List.set_cons_zero, List.set_cons_succ]
  refine wpAnyH_take (i := 6) (v := ?_) (by simp only [List.getElem?_toArray, List.getElem?_cons_succ, List.getElem?_cons_zero]; rfl) (by kernel_rfl) (by kernel_rfl) (by kernel_rfl) (by intro _ _ _ h; exact h) (Or.inl ⟨by rfl, ?_⟩) hHeld ?_
  rotate_left 1
  · intro wq hSw
    try dsimp only at hSw
    go_simp
    try (with_reducible rfl)
  try simp only [Act.put, List.setIfInBounds_toArray, List.set_cons_zero, List.set_cons_succ]
  refine wpAnyH_take (i := 7) (v := ?_) (by simp only [List.getElem?_toArray, List.getElem?_cons_succ, List.getElem?_cons_zero]; rfl) (by kernel_rfl) (by kernel_rfl) (by kernel_rfl) (by intro _ _ _ h; exact h) (Or.inl ⟨by rfl, ?_⟩) hHeld ?_
  rotate_left 1
  · intro wq hSw
    try dsimp only at hSw
    go_simp
    try (with_reducible rfl)
  try simp only [Act.put, List.setIfInBounds_toArray, List.set_cons_zero, List.set_cons_succ]
  refine wpAnyH_take (i := 8) (v := ?_) (by simp only [List.getElem?_toArray, List.getElem?_cons_succ, List.getElem?_cons_zero]; rfl) (by kernel_rfl) (by kernel_rfl) (by kernel_rfl) (by intro _ _ _ h; exact h) (Or.inl ⟨by rfl, ?_⟩) hHeld ?_
  rotate_left 1
  · intro wq hSw
    try dsimp only at hSw
    go_simp
    try (with_reducible rfl)
  try simp only [Act.put, List.setIfInBounds_toArray, List.set_cons_zero, List.set_cons_succ]
  refine wpAnyH_take (i := 9) (v := ?_) (by simp only [List.getElem?_toArray, List.getElem?_cons_succ, List.getElem?_cons_zero]; rfl) (by kernel_rfl) (by kernel_rfl) (by kernel_rfl) (by intro _ _ _ h; exact h) (Or.inl ⟨by rfl, ?_⟩) hHeld ?_
  rotate_left 1
  · intro wq hSw
    try dsimp only at hSw
    go_simp
    try (with_reducible rfl)
  try simp only [Act.put, List.setIfInBounds_toArray, List.set_cons_zero, List.set_cons_succ]
  refine wpAnyH_take (i := 10) (v := ?_) (by simp only [List.getElem?_toArray, List.getElem?_cons_succ, List.getElem?_cons_zero]; rfl) (by kernel_rfl) (by kernel_rfl) (by kernel_rfl) (by intro _ _ _ h; exact h) (Or.inl ⟨by rfl, ?_⟩) hHeld ?_
  rotate_left 1
  · intro wq hSw
    try dsimp only at hSw
    go_simp
    try (with_reducible rfl)
  try simp only [Act.put, List.setIfInBounds_toArray, List.set_cons_zero, List.set_cons_succ]
  refine wpAnyH_take (i := 11) (v := ?_) (by simp only [List.getElem?_toArray, List.getElem?_cons_succ, List.getElem?_cons_zero]; rfl) (by kernel_rfl) (by kernel_rfl) (by kernel_rfl) (by intro _ _ _ h; exact h) (Or.inl ⟨by rfl, ?_⟩) hHeld ?_
  rotate_left 1
  · intro wq hSw
    try dsimp only at hSw
    go_simp
    try (with_reducible rfl)
  try simp only [Act.put, List.setIfInBounds_toArray, List.set_cons_zero, List.set_cons_succ]
  refine wpAnyH_take (i := 12) (v := ?_) (by simp only [List.getElem?_toArray, List.getElem?_cons_succ, List.getElem?_cons_zero]; rfl) (by kernel_rfl) (by kernel_rfl) (by kernel_rfl) (by intro _ _ _ h; exact h) (Or.inl ⟨by rfl, ?_⟩) hHeld ?_
  rotate_left 1
  · intro wq hSw
    try dsimp only at hSw
    go_simp
    try (with_reducible rfl)
  try simp only [Act.put, List.setIfInBounds_toArray, List.set_cons_zero, List.set_cons_succ]
  refine wpAnyH_take (i := 13) (v := ?_) (by simp only [List.getElem?_toArray, List.getElem?_cons_succ, List.getElem?_cons_zero]; rfl) (by kernel_rfl) (by kernel_rfl) (by kernel_rfl) (by intro _ _ _ h; exact h) (Or.inl ⟨by rfl, ?_⟩) hHeld ?_
  rotate_left 1
  · intro wq hSw
    try dsimp only at hSw
    go_simp
    try (with_reducible rfl)
  try simp only [Act.put, List.setIfInBounds_toArray, List.set_cons_zero, List.set_cons_succ]
  refine wpAnyH_take (i := 14) (v := ?_) (by simp only [List.getElem?_toArray, List.getElem?_cons_succ, List.getElem?_cons_zero]; rfl) (by kernel_rfl) (by kernel_rfl) (by kernel_rfl) (by intro _ _ _ h; exact h) (Or.inl ⟨by rfl, ?_⟩) hHeld ?_
  rotate_left 1
  · intro wq hSw
    try dsimp only at hSw
    go_simp
    try (with_reducible rfl)
  try simp only [Act.put, List.setIfInBounds_toArray, List.set_cons_zero, List.set_cons_succ]
  refine wpAnyH_take (i := 15) (v := ?_) (by simp only [List.getElem?_toArray, List.getElem?_cons_succ, List.getElem?_cons_zero]; rfl) (by kernel_rfl) (by kernel_rfl) (by kernel_rfl) (by intro _ _ _ h; exact h) (Or.inl ⟨by rfl, ?_⟩) hHeld ?_
  rotate_left 1
  · intro wq hSw
    try dsimp only at hSw
    go_simp
    try (with_reducible rfl)
  try simp only [Act.put, List.setIfInBounds_toArray, List.set_cons_zero, List.set_cons_succ]
  refine wpAnyH_take (i := 16) (v := ?_) (by simp only [List.getElem?_toArray, List.getElem?_cons_succ, List.getElem?_cons_zero]; rfl) (by kernel_rfl) (by kernel_rfl) (by kernel_rfl) (by intro _ _ _ h; exact h) (Or.inl ⟨by rfl, ?_⟩) hHeld ?_
  rotate_left 1
  · intro wq hSw
    try dsimp only at hSw
    go_simp
    try (with_reducible rfl)
  try simp only [Act.put, List.setIfInBounds_toArray, List.set_cons_zero, List.set_cons_succ]
  refine wpAnyH_take (i := 17) (v := ?_) (by simp only [List.getElem?_toArray, List.getElem?_cons_succ, List.getElem?_cons_zero]; rfl) (by kernel_rfl) (by kernel_rfl) (by kernel_rfl) (by intro _ _ _ h; exact h) (Or.inl ⟨by rfl, ?_⟩) hHeld ?_
  rotate_left 1
  · intro wq hSw
    try dsimp only at hSw
    go_simp
    try (with_reducible rfl)
  try simp only [Act.put, List.setIfInBounds_toArray, List.set_cons_zero, List.set_cons_succ]
  refine wpAnyH_take (i := 18) (v := ?_) (by simp only [List.getElem?_toArray, List.getElem?_cons_succ, List.getElem?_cons_zero]; rfl) (by kernel_rfl) (by kernel_rfl) (by kernel_rfl) (by intro _ _ _ h; exact h) (Or.inl ⟨by rfl, ?_⟩) hHeld ?_
  rotate_left 1
  · intro wq hSw
    try dsimp only at hSw
    go_simp
    try (with_reducible rfl)
  try simp only [Act.put, List.setIfInBounds_toArray, List.set_cons_zero, List.set_cons_succ]
  refine wpAnyH_take (i := 19) (v := ?_) (by simp only [List.getElem?_toArray, List.getElem?_cons_succ, List.getElem?_cons_zero]; rfl) (by kernel_rfl) (by kernel_rfl) (by kernel_rfl) (by intro _ _ _ h; exact h) (Or.inl ⟨by rfl, ?_⟩) hHeld ?_
  rotate_left 1
  · intro wq hSw
    try dsimp only at hSw
    go_simp
    try (with_reducible rfl)
  try simp only [Act.put, List.setIfInBounds_toArray, List.set_cons_zero, List.set_cons_succ]
  refine wpAnyH_take (i := 20) (v := ?_) (by simp only [List.getElem?_toArray, List.getElem?_cons_succ, List.getElem?_cons_zero]; rfl) (by kernel_rfl) (by kernel_rfl) (by kernel_rfl) (by intro _ _ _ h; exact h) (Or.inl ⟨by rfl, ?_⟩) hHeld ?_
  rotate_left 1
  · intro wq hSw
    try dsimp only at hSw
    go_simp
    try (with_reducible rfl)
  try simp only [Act.put, List.setIfInBounds_toArray, List.set_cons_zero, List.set_cons_succ]
  refine wpAnyH_take (i := 21) (v := ?_) (by simp only [List.getElem?_toArray, List.getElem?_cons_succ, List.getElem?_cons_zero]; rfl) (by kernel_rfl) (by kernel_rfl) (by kernel_rfl) (by intro _ _ _ h; exact h) (Or.inl ⟨by rfl, ?_⟩) hHeld ?_
  rotate_left 1
  · intro wq hSw
    try dsimp only at hSw
    go_simp
    try (with_reducible rfl)
  try simp only [Act.put, List.setIfInBounds_toArray, List.set_cons_zero, List.set_cons_succ]
  refine wpAnyH_take (i := 22) (v := ?_) (by simp only [List.getElem?_toArray, List.getElem?_cons_succ, List.getElem?_cons_zero]; rfl) (by kernel_rfl) (by kernel_rfl) (by kernel_rfl) (by intro _ _ _ h; exact h) (Or.inl ⟨by rfl, ?_⟩) hHeld ?_
  rotate_left 1
  · intro wq hSw
    try dsimp only at hSw
    go_simp
    try (with_reducible rfl)
  try simp only [Act.put, List.setIfInBounds_toArray, List.set_cons_zero, List.set_cons_succ]
  refine wpAnyH_take (i := 23) (v := ?_) (by simp only [List.getElem?_toArray, List.getElem?_cons_succ, List.getElem?_cons_zero]; rfl) (by kernel_rfl) (by kernel_rfl) (by kernel_rfl) (by intro _ _ _ h; exact h) (Or.inl ⟨by rfl, ?_⟩) hHeld ?_
  rotate_left 1
  · intro wq hSw
    try dsimp only at hSw
    go_simp
    try (with_reducible rfl)
  try simp only [Act.put, List.setIfInBounds_toArray, List.set_cons_zero, List.set_cons_succ]
  refine wpAnyH_take (i := 24) (v := ?_) (by simp only [List.getElem?_toArray, List.getElem?_cons_succ, List.getElem?_cons_zero]; rfl) (by kernel_rfl) (by kernel_rfl) (by kernel_rfl) (by intro _ _ _ h; exact h) (Or.inl ⟨by rfl, ?_⟩) hHeld ?_
  rotate_left 1
  · intro wq hSw
    try dsimp only at hSw
    go_simp
    try (with_reducible rfl)
  try simp only [Act.put, List.setIfInBounds_toArray, List.set_cons_zero, List.set_cons_succ]
  refine wpAnyH_take (i := 25) (v := ?_) (by simp only [List.getElem?_toArray, List.getElem?_cons_succ, List.getElem?_cons_zero]; rfl) (by kernel_rfl) (by kernel_rfl) (by kernel_rfl) (by intro _ _ _ h; exact h) (Or.inl ⟨by rfl, ?_⟩) hHeld ?_
  rotate_left 1
  · intro wq hSw
    try dsimp only at hSw
    go_simp
    try (with_reducible rfl)
  try simp only [Act.put, List.setIfInBounds_toArray, List.set_cons_zero, List.set_cons_succ]
  refine wpAnyH_take (i := 26) (v := ?_) (by simp only [List.getElem?_toArray, List.getElem?_cons_succ, List.getElem?_cons_zero]; rfl) (by kernel_rfl) (by kernel_rfl) (by kernel_rfl) (by intro _ _ _ h; exact h) (Or.inl ⟨by rfl, ?_⟩) hHeld ?_
  rotate_left 1
  · intro wq hSw
    try dsimp only at hSw
    go_simp
    try (with_reducible rfl)
  try simp only [Act.put, List.setIfInBounds_toArray, List.set_cons_zero, List.set_cons_succ]
  refine wpAnyH_take (i := 27) (v := ?_) (by simp only [List.getElem?_toArray, List.getElem?_cons_succ, List.getElem?_cons_zero]; rfl) (by kernel_rfl) (by kernel_rfl) (by kernel_rfl) (by intro _ _ _ h; exact h) (Or.inl ⟨by rfl, ?_⟩) hHeld ?_
  rotate_left 1
  · intro wq hSw
    try dsimp only at hSw
    go_simp
    try (with_reducible rfl)
  try simp only [Act.put, List.setIfInBounds_toArray, List.set_cons_zero, List.set_cons_succ]
  refine wpAnyH_take (i := 28) (v := ?_) (by simp only [List.getElem?_toArray, List.getElem?_cons_succ, List.getElem?_cons_zero]; rfl) (by kernel_rfl) (by kernel_rfl) (by kernel_rfl) (by intro _ _ _ h; exact h) (Or.inl ⟨by rfl, ?_⟩) hHeld ?_
  rotate_left 1
  · intro wq hSw
    try dsimp only at hSw
    go_simp
    try (with_reducible rfl)
  try simp only [Act.put, List.setIfInBounds_toArray, List.set_cons_zero, List.set_cons_succ]
  refine wpAnyH_take (i := 29) (v := ?_) (by simp only [List.getElem?_toArray, List.getElem?_cons_succ, List.getElem?_cons_zero]; rfl) (by kernel_rfl) (by kernel_rfl) (by kernel_rfl) (by intro _ _ _ h; exact h) (Or.inl ⟨by rfl, ?_⟩) hHeld ?_
  rotate_left 1
  · intro wq hSw
    try dsimp only at hSw
    go_simp
    try (with_reducible rfl)
  try simp only [Act.put, List.setIfInBounds_toArray, List.set_cons_zero, List.set_cons_succ]
  refine wpAnyH_take (i := 30) (v := ?_) (by simp only [List.getElem?_toArray, List.getElem?_cons_succ, List.getElem?_cons_zero]; rfl) (by kernel_rfl) (by kernel_rfl) (by kernel_rfl) (by intro _ _ _ h; exact h) (Or.inl ⟨by rfl, ?_⟩) hHeld ?_
  rotate_left 1
  · intro wq hSw
    try dsimp only at hSw
    go_simp
    try (with_reducible rfl)
  try simp only [Act.put, List.setIfInBounds_toArray, List.set_cons_zero, List.set_cons_succ]
  refine wpAnyH_take (i := 31) (v := ?_) (by simp only [List.getElem?_toArray, List.getElem?_cons_succ, List.getElem?_cons_zero]; rfl) (by kernel_rfl) (by kernel_rfl) (by kernel_rfl) (by intro _ _ _ h; exact h) (Or.inl ⟨by rfl, ?_⟩) hHeld ?_
  rotate_left 1
  · intro wq hSw
    try dsimp only at hSw
    go_simp
    try (with_reducible rfl)
  try simp only [Act.put, List.setIfInBounds_toArray, List.set_cons_zero, List.set_cons_succ]
  refine wpAnyH_ready (rs := [32]) (by kernel_rfl) (by simp) ?_
  refine AllReadyH.cons (by simp only [List.getElem?_toArray, List.getElem?_cons_succ, List.getElem?_cons_zero]; rfl) (fun K hK => ?_) AllReadyH.nil
  obtain ⟨kn, hkn⟩ : ∃ k, x2.heap.size = k := ⟨_, rfl⟩
  go_simp
  try simp only [hkn]
  have Sn : Sl (x2.alloc (.cells #[.int .i64 0, .int .i64 24] 3)) (some ⟨x2.heap.size, 0, none⟩) 2 2 ([0, 24].map vint) := Sl.new x2 [vint 0, vint 24] 3 (by simp)
  rw [hkn] at Sn
  clear hkn
  replace bd := bd.alloc bd.size (.cells #[.int .i64 0, .int .i64 24] 3)
  generalize x2.alloc (.cells #[.int .i64 0, .int .i64 24] 3) = x3 at *
  refine hK.out _ _ (bd) (fun hHeld => ?_)
  clear hK K
  try dsimp only at hHeld
  try simp only [Act.put, List.setIfInBounds_toArray, List.set_cons_zero, List.set_cons_succ]
  refine wpAnyH_ready (rs := [33]) (by kernel_rfl) (by simp) ?_
  refine AllReadyH.cons (by simp only [List.getElem?_toArray, List.getElem?_cons_succ, List.getElem?_cons_zero]; rfl) (fun K hK => ?_) AllReadyH.nil
  have hC := numSame_any [0, 24] A7 2 c7 (some ⟨kn, 0, none⟩) 2 x3 (s7.below bd) Sn
  go_simp
  refine hC.mono ?_
  clear hC
  rintro e x4 ⟨rfl, bx⟩
  replace bd := bd.trans (bx.mono bd.size)
  clear bx Sn
  go_wp2_with fail
  refine hK.out _ _ (bd) (fun hHeld => ?_)
  clear hK K
  try dsimp only at hHeld
  try simp only [Act.put, List.setIfInBounds_toArray, List.set_cons_zero, List.set_cons_succ]
  refine wpAnyH_take (i := 34) (v := ?_) (by simp only [List.getElem?_toArray, List.getElem?_cons_succ, List.getElem?_cons_zero]; rfl) (by kernel_rfl) (by kernel_rfl) (by kernel_rfl) (by intro _ _ _ h; exact h) (Or.inl ⟨by rfl, ?_⟩) hHeld ?_
  rotate_left 1
  · intro wq hSw
    try dsimp only at hSw
    go_simp
    try (with_reducible rfl)
  try simp only [Act.put, List.setIfInBounds_toArray, List.set_cons_zero, List.set_cons_succ]
  refine wpAnyH_take (i := 35) (v := ?_) (by simp only [List.getElem?_toArray, List.getElem?_cons_succ, List.getElem?_cons_zero]; rfl) (by kernel_rfl) (by kernel_rfl) (by kernel_rfl) (by intro _ _ _ h; exact h) (Or.inl ⟨by rfl, ?_⟩) hHeld ?_
  rotate_left 1
  · intro wq hSw
    try dsimp only at hSw
    go_simp
    try (with_reducible rfl)
  try simp only [Act.put, List.setIfInBounds_toArray, List.set_cons_zero, List.set_cons_succ]
  refine wpAnyH_take (i := 36) (v := ?_) (by simp only [List.getElem?_toArray, List.getElem?_cons_succ, List.getElem?_cons_zero]; rfl) (by kernel_rfl) (by kernel_rfl) (by kernel_rfl) (by intro _ _ _ h; exact h) (Or.inl ⟨by rfl, ?_⟩) hHeld ?_
  rotate_left 1
  · intro wq hSw
    try dsimp only at hSw
    go_simp
    try (with_reducible rfl)
  try simp only [Act.put, List.setIfInBounds_toArray, List.set_cons_zero, List.set_cons_succ]
  refine wpAnyH_take (i := 37) (v := ?_) (by simp only [List.getElem?_toArray, List.getElem?_cons_succ, List.getElem?_cons_zero]; rfl) (by kernel_rfl) (by kernel_rfl) (by kernel_rfl) (by intro _ _ _ h; exact h) (Or.inl ⟨by rfl, ?_⟩) hHeld ?_
  rotate_left 1
  · intro wq hSw
    try dsimp only at hSw
    have hc8 : (8 : Int) ≤ (c1 : Int) := by omega
    go_simp
    try (with_reducible rfl)
  try simp only [Act.put, List.setIfInBounds_toArray, List.set_cons_zero, List.set_cons_succ]
  refine wpAnyH_take (i := 38) (v := ?_) (by simp only [List.getElem?_toArray, List.getElem?_cons_succ, List.getElem?_cons_zero]; rfl) (by kernel_rfl) (by kernel_rfl) (by kernel_rfl) (by intro _ _ _ h; exact h) (Or.inl ⟨by rfl, ?_⟩) hHeld ?_
  rotate_left 1
  · intro wq hSw
    try dsimp only at hSw
    have q8 := str_of (s18.below hSw)
    go_simp
    try (with_reducible rfl)
  try simp only [Act.put, List.setIfInBounds_toArray, List.set_cons_zero, List.set_cons_succ]
  refine wpAnyH_ready (rs := [39]) (by kernel_rfl) (by simp) ?_
  refine AllReadyH.cons (by simp only [List.getElem?_toArray, List.getElem?_cons_succ, List.getElem?_cons_zero]; rfl) (fun K hK => ?_) AllReadyH.nil
  obtain ⟨kn, hkn⟩ : ∃ k, x4.heap.size = k := ⟨_, rfl⟩
  go_simp
  try simp only [hkn]
  have Sn : Sl (x4.alloc (.cells #[.int .u8 87, .int .u8 82, .int .u8 76, .int .u8 71, .int .u8 1, .int .u8 0, .int .u8 4, .int .u8 0] 5)) (some ⟨x4.heap.size, 0, none⟩) 8 8 ([87, 82, 76, 71, 1, 0, 4, 0].map v8) := sl8 x4 [87, 82, 76, 71, 1, 0, 4, 0] (by decide)
  rw [hkn] at Sn
  clear hkn
  replace bd := bd.alloc bd.size (.cells #[.int .u8 87, .int .u8 82, .int .u8 76, .int .u8 71, .int .u8 1, .int .u8 0, .int .u8 4, .int .u8 0] 5)
  generalize x4.alloc (.cells #[.int .u8 87, .int .u8 82, .int .u8 76, .int .u8 71, .int .u8 1, .int .u8 0, .int .u8 4, .int .u8 0] 5) = x5 at *
  refine hK.out _ _ (bd) (fun _ => wpAnyH_stronger (S' := fun w' => Below x5.heap.size x5 w') (fun w' h => Below.trans bd (h.mono bd.size)) _ _ _ _ ?_)
  clear hK K hHeld
  have hHeld := Below.refl x5.heap.size x5
  have Bv5 := Bv.under bd
  try simp only [Act.put, List.setIfInBounds_toArray, List.set_cons_zero, List.set_cons_succ]
  refine wpAnyH_take (i := 40) (v := ?_) (by simp only [List.getElem?_toArray, List.getElem?_cons_succ, List.getElem?_cons_zero]; rfl) (by kernel_rfl) (by kernel_rfl) (by kernel_rfl) (by intro _ _ _ h; exact h) (Or.inl ⟨by rfl, ?_⟩) hHeld ?_
  rotate_left 1
  · intro wq hSw
    try dsimp only at hSw
    have q8 := str_of (Sn.below hSw)
    go_simp
    try (with_reducible rfl)
  try simp only [Act.put, List.setIfInBounds_toArray, List.set_cons_zero, List.set_cons_succ]
  refine wpAnyH_take (i := 41) (v := ?_) (by simp only [List.getElem?_toArray, List.getElem?_cons_succ, List.getElem?_cons_zero]; rfl) (by kernel_rfl) (by kernel_rfl) (by kernel_rfl) (by intro _ _ _ h; exact h) (Or.inl ⟨by rfl, ?_⟩) hHeld ?_
  rotate_left 1
  · intro wq hSw
    try dsimp only at hSw
    go_simp
    try (with_reducible rfl)
  try simp only [Act.put, List.setIfInBounds_toArray, List.set_cons_zero, List.set_cons_succ]
  refine wpAnyH_take (i := 42) (v := ?_) (by simp only [List.getElem?_toArray, List.getElem?_cons_succ, List.getElem?_cons_zero]; rfl) (by kernel_rfl) (by kernel_rfl) (by kernel_rfl) (by intro _ _ _ h; exact h) (Or.inl ⟨by rfl, ?_⟩) hHeld ?_
  rotate_left 1
  · intro wq hSw
    try dsimp only at hSw
    go_simp
    try (with_reducible rfl)
  try simp only [Act.put, List.setIfInBounds_toArray, List.set_cons_zero, List.set_cons_succ]
  refine wpAnyH_take (i := 43) (v := ?_) (by simp only [List.getElem?_toArray, List.getElem?_cons_succ, List.getElem?_cons_zero]; rfl) (by kernel_rfl) (by kernel_rfl) (by kernel_rfl) (by intro _ _ _ h; exact h) (Or.inl ⟨by rfl, ?_⟩) hHeld ?_
  rotate_left 1
  · intro wq hSw
    try dsimp only at hSw
    go_simp
    try (with_reducible rfl)
  try simp only [Act.put, List.setIfInBounds_toArray, List.set_cons_zero, List.set_cons_succ]
  refine wpAnyH_take (i := 44) (v := ?_) (by simp only [List.getElem?_toArray, List.getElem?_cons_succ, List.getElem?_cons_zero]; rfl) (by kernel_rfl) (by kernel_rfl) (by kernel_rfl) (by intro _ _ _ h; exact h) (Or.inl ⟨by rfl, ?_⟩) hHeld ?_
  rotate_left 1
  · intro wq hSw
    try dsimp only at hSw
    obtain ⟨y0, y1, y2, _⟩ := (Bv5.under hSw).three
    go_simp
    try (with_reducible rfl)
  try simp only [Act.put, List.setIfInBounds_toArray, List.set_cons_zero, List.set_cons_succ]
  refine wpAnyH_ready (rs := [45]) (by kernel_rfl) (by simp) ?_
  refine AllReadyH.cons (by simp only [List.getElem?_toArray, List.getElem?_cons_succ, List.getElem?_cons_zero]; rfl) (fun K hK => ?_) AllReadyH.nil
  have hC := rCheck_any 1 9 (some ⟨w.heap.size, 0, none⟩) 4 4 x5
  rw [show rchkE 1 9 ((4 : Nat) : Int) = 0 by decide] at hC
  go_simp
  refine hC.mono ?_
  clear hC
  rintro e x6 ⟨rfl, bx⟩
  go_wp2_with fail
  refine hK.out _ _ (bx) (fun hHeld => ?_)
  clear hK K
  try dsimp only at hHeld
  try simp only [Act.put, List.setIfInBounds_toArray, List.set_cons_zero, List.set_cons_succ]
  refine wpAnyH_take (i := 46) (v := ?_) (by simp only [List.getElem?_toArray, List.getElem?_cons_succ, List.getElem?_cons_zero]; rfl) (by kernel_rfl) (by kernel_rfl) (by kernel_rfl) (by intro _ _ _ h; exact h) (Or.inl ⟨by rfl, ?_⟩) hHeld ?_
  rotate_left 1
  · intro wq hSw
    try dsimp only at hSw
    go_simp
    try (with_reducible rfl)
  try simp only [Act.put, List.setIfInBounds_toArray, List.set_cons_zero, List.set_cons_succ]
  refine wpAnyH_take (i := 47) (v := ?_) (by simp only [List.getElem?_toArray, List.getElem?_cons_succ, List.getElem?_cons_zero]; rfl) (by kernel_rfl) (by kernel_rfl) (by kernel_rfl) (by intro _ _ _ h; exact h) (Or.inl ⟨by rfl, ?_⟩) hHeld ?_
  rotate_left 1
  · intro wq hSw
    try dsimp only at hSw
    go_simp
    try (with_reducible rfl)
  try simp only [Act.put, List.setIfInBounds_toArray, List.set_cons_zero, List.set_cons_succ]
  refine wpAnyH_take (i := 48) (v := ?_) (by simp only [List.getElem?_toArray, List.getElem?_cons_succ, List.getElem?_cons_zero]; rfl) (by kernel_rfl) (by kernel_rfl) (by kernel_rfl) (by intro _ _ _ h; exact h) (Or.inl ⟨by rfl, ?_⟩) hHeld ?_
  rotate_left 1
  · intro wq hSw
    try dsimp only at hSw
    go_simp
    try (with_reducible rfl)
  try simp only [Act.put, List.setIfInBounds_toArray, List.set_cons_zero, List.set_cons_succ]
  refine wpAnyH_done (by kernel_rfl) ?_ _
  replace bb := bb.trans ((bd.trans (bx.mono bd.size)).mono bb.size)
  go_wp2
  go_ret
  exact ⟨rfl, bb⟩
end Go.Proofs.YtjhpjhgofmlecaaDoor
