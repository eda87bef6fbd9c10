/-
  ChangeTells: the walk (written by gen_chtells.py).
-/
import Derived.Test.YtbhohjbgbachhaaChArgs
import Derived.Test.YtbhohjbgbachhaaChRef3
namespace Go.Proofs.Ytbhohjbgbachhaa
open Go.RowKit Go.Wag
set_option linter.unusedVariables false
set_option linter.unusedSimpArgs false
set_option maxRecDepth 100000 in
set_option maxHeartbeats 8000000 in
theorem chTells_core {G : Nat → Prop} (k la n i : Int) (Ad : Option Addr) (md cd : Nat) (Al : Option Addr) (ml cl : Nat) (d : List UInt8) (xs : List Xp) (Ab : Option Addr) (mb cb : Nat) (b : List UInt8) (w : World) (hla0 : la ≤ 9223372036854775807) (hla : ∀ x ∈ xs, x.la ≤ 9223372036854775807) (hS : Sl w Ad md cd (d.map v8)) (hR : Rs extE G w Al ml cl xs) (hB : Sl w Ab mb cb (b.map v8)) :
    Calls Try.prog 5 #[.agg #[.int .i64 k, .int .i64 la, .int .i64 n, .int .i64 i, .slice Ad md cd, .slice Al ml cl], .slice Ab mb cb] w (AwakePost w) := by
  have hcapb := hB.cap
  have hbigb := hB.big
  have hla' := Lib.hid hla
  have bb := Below.refl w.heap.size w
  have S := hS
  have R := hR
  have B := hB
  clear hS hR hB hla
  go_enter Try.func5, Try.ntmps5
  replace S := S.alloc (.cells #[.int .i64 k, .int .i64 la, .int .i64 n, .int .i64 i, .slice Ad md cd, .slice Al ml cl] 37)
  replace R := R.alloc (.cells #[.int .i64 k, .int .i64 la, .int .i64 n, .int .i64 i, .slice Ad md cd, .slice Al ml cl] 37)
  replace B := B.alloc (.cells #[.int .i64 k, .int .i64 la, .int .i64 n, .int .i64 i, .slice Ad md cd, .slice Al ml cl] 37)
  replace bb := bb.alloc bb.size (.cells #[.int .i64 k, .int .i64 la, .int .i64 n, .int .i64 i, .slice Ad md cd, .slice Al ml cl] 37)
  have X := Blk.new w #[.int .i64 k, .int .i64 la, .int .i64 n, .int .i64 i, .slice Ad md cd, .slice Al ml cl] 37
  go_wp2_with fail
  generalize (w.alloc (.cells #[.int .i64 k, .int .i64 la, .int .i64 n, .int .i64 i, .slice Ad md cd, .slice Al ml cl] 37)) = wa at *
  have hC := awake10_any wa
  refine hC.mono ?_
  clear hC
  rintro e w1 ⟨rfl, b1⟩
  replace S := S.below b1
  replace R := R.below b1
  replace B := B.below b1
  replace X := X.under b1
  replace bb := bb.trans (b1.mono bb.size)
  obtain ⟨Xq0, Xq1, Xq2, Xq3, Xq4, Xq5, Xr0, Xr1, Xr2, Xr3, Xr4, Xr5⟩ := X.six
  have Xl := X.lt
  go_wp2_with fail
  clear Xq0 Xq1 Xq2 Xq3 Xq4 Xq5 Xr0 Xr1 Xr2 Xr3 Xr4 Xr5
  have hC := few10_any k la n i Ad md cd Al ml cl xs w1 R
  refine hC.mono ?_
  clear hC
  rintro e w2 ⟨r, rfl, hr, b2⟩
  replace S := S.below b2
  replace R := R.below b2
  replace B := B.below b2
  replace X := X.under b2
  replace bb := bb.trans (b2.mono bb.size)
  clear hr
  cases r
  · skip
    go_wp2
    go_ret
    exact ⟨rfl, bb⟩
  by_cases h5 : (mb : Int) > 5000
  · skip
    go_wp2
    go_ret
    exact ⟨rfl, bb⟩
  obtain ⟨rw_, hrw⟩ : ∃ r, cwr ⟨k, la, n, i, d, xs⟩ = r := ⟨_, rfl⟩
  have hW1 := fun W s r => chWrite_any (F := G) k la n i Ad md cd Al ml cl d xs W s r hla0 hla'.out
  have hW2 := fun W s r => gWrite_any (F := G) k la n i Ad md cd Al ml cl d xs W s r hla0 hla'.out
  simp only [hrw] at hW1 hW2
  replace hrw := Lib.hid hrw
  obtain ⟨rr, hrr⟩ : ∃ r, crd b = r := ⟨_, rfl⟩
  have hR1 := fun W s => chRead_any Ab mb cb b W s (by omega)
  have hR2 := fun W s => gRead_any Ab mb cb b W s (by omega)
  simp only [hrr] at hR1 hR2
  replace hrr := Lib.hid hrr
  obtain ⟨er, her⟩ : ∃ x, errOf rw_ 100 = x := ⟨_, rfl⟩
  obtain ⟨Xq0, Xq1, Xq2, Xq3, Xq4, Xq5, Xr0, Xr1, Xr2, Xr3, Xr4, Xr5⟩ := X.six
  have Xl := X.lt
  go_wp2_with fail
  clear Xq0 Xq1 Xq2 Xq3 Xq4 Xq5 Xr0 Xr1 Xr2 Xr3 Xr4 Xr5
  have hC := hW1 w2 S R
  refine hC.mono ?_
  clear hC
  rintro e w3 ⟨A3, m3, c3, rfl, T1, _, b3⟩
  replace S := S.below b3
  replace R := R.below b3
  replace B := B.below b3
  replace X := X.under b3
  replace bb := bb.trans (b3.mono bb.size)
  clear hW1
  try simp only [her]
  obtain ⟨Xq0, Xq1, Xq2, Xq3, Xq4, Xq5, Xr0, Xr1, Xr2, Xr3, Xr4, Xr5⟩ := X.six
  have Xl := X.lt
  go_wp2_with fail
  clear Xq0 Xq1 Xq2 Xq3 Xq4 Xq5 Xr0 Xr1 Xr2 Xr3 Xr4 Xr5
  have hC := hW2 w3 S R
  refine hC.mono ?_
  clear hC
  rintro e w4 ⟨A4, m4, c4, rfl, T2, _, b4⟩
  replace S := S.below b4
  replace R := R.below b4
  replace B := B.below b4
  replace X := X.under b4
  replace T1 := T1.below b4
  replace bb := bb.trans (b4.mono bb.size)
  clear hW2
  try simp only [her]
  go_wp2_with fail
  have hC := hR1 w4 B
  refine hC.mono ?_
  clear hC
  rintro e w5 ⟨c1, e1, A5, m5, q5, B5, p5, r5, hc1, he1, rfl, D5, L5, b5⟩
  replace S := S.below b5
  replace R := R.below b5
  replace B := B.below b5
  replace X := X.under b5
  replace T1 := T1.below b5
  replace T2 := T2.below b5
  replace bb := bb.trans (b5.mono bb.size)
  clear hR1
  replace S := S.alloc (.cells #[.int .i64 c1.k, .int .i64 c1.la, .int .i64 c1.n, .int .i64 c1.i, .slice A5 m5 q5, .slice B5 p5 r5] 37)
  replace R := R.alloc (.cells #[.int .i64 c1.k, .int .i64 c1.la, .int .i64 c1.n, .int .i64 c1.i, .slice A5 m5 q5, .slice B5 p5 r5] 37)
  replace B := B.alloc (.cells #[.int .i64 c1.k, .int .i64 c1.la, .int .i64 c1.n, .int .i64 c1.i, .slice A5 m5 q5, .slice B5 p5 r5] 37)
  replace X := X.alloc (.cells #[.int .i64 c1.k, .int .i64 c1.la, .int .i64 c1.n, .int .i64 c1.i, .slice A5 m5 q5, .slice B5 p5 r5] 37)
  replace T1 := T1.alloc (.cells #[.int .i64 c1.k, .int .i64 c1.la, .int .i64 c1.n, .int .i64 c1.i, .slice A5 m5 q5, .slice B5 p5 r5] 37)
  replace T2 := T2.alloc (.cells #[.int .i64 c1.k, .int .i64 c1.la, .int .i64 c1.n, .int .i64 c1.i, .slice A5 m5 q5, .slice B5 p5 r5] 37)
  replace D5 := D5.alloc (.cells #[.int .i64 c1.k, .int .i64 c1.la, .int .i64 c1.n, .int .i64 c1.i, .slice A5 m5 q5, .slice B5 p5 r5] 37)
  replace L5 := L5.alloc (.cells #[.int .i64 c1.k, .int .i64 c1.la, .int .i64 c1.n, .int .i64 c1.i, .slice A5 m5 q5, .slice B5 p5 r5] 37)
  replace bb := bb.alloc bb.size (.cells #[.int .i64 c1.k, .int .i64 c1.la, .int .i64 c1.n, .int .i64 c1.i, .slice A5 m5 q5, .slice B5 p5 r5] 37)
  have V1 := Blk.new w5 #[.int .i64 c1.k, .int .i64 c1.la, .int .i64 c1.n, .int .i64 c1.i, .slice A5 m5 q5, .slice B5 p5 r5] 37
  go_wp2_with fail
  generalize (w5.alloc (.cells #[.int .i64 c1.k, .int .i64 c1.la, .int .i64 c1.n, .int .i64 c1.i, .slice A5 m5 q5, .slice B5 p5 r5] 37)) = wb at *
  have hC := hR2 wb B
  refine hC.mono ?_
  clear hC
  rintro e w6 ⟨c2, e2, A6, m6, q6, B6, p6, r6, hc2, he2, rfl, D6, L6, b6⟩
  replace S := S.below b6
  replace R := R.below b6
  replace B := B.below b6
  replace X := X.under b6
  replace T1 := T1.below b6
  replace T2 := T2.below b6
  replace D5 := D5.below b6
  replace L5 := L5.below b6
  replace V1 := V1.under b6
  replace bb := bb.trans (b6.mono bb.size)
  clear hR2
  obtain rfl : c2 = c1 := hc2.out.trans hc1.out.symm
  obtain rfl : e2 = e1 := he2.out.trans he1.out.symm
  clear hc1 he1 hc2 he2
  obtain ⟨V1q0, V1q1, V1q2, V1q3, V1q4, V1q5, V1r0, V1r1, V1r2, V1r3, V1r4, V1r5⟩ := V1.six
  have V1l := V1.lt
  replace S := S.alloc (.cells #[.int .i64 c2.k, .int .i64 c2.la, .int .i64 c2.n, .int .i64 c2.i, .slice A6 m6 q6, .slice B6 p6 r6] 37)
  replace R := R.alloc (.cells #[.int .i64 c2.k, .int .i64 c2.la, .int .i64 c2.n, .int .i64 c2.i, .slice A6 m6 q6, .slice B6 p6 r6] 37)
  replace B := B.alloc (.cells #[.int .i64 c2.k, .int .i64 c2.la, .int .i64 c2.n, .int .i64 c2.i, .slice A6 m6 q6, .slice B6 p6 r6] 37)
  replace X := X.alloc (.cells #[.int .i64 c2.k, .int .i64 c2.la, .int .i64 c2.n, .int .i64 c2.i, .slice A6 m6 q6, .slice B6 p6 r6] 37)
  replace T1 := T1.alloc (.cells #[.int .i64 c2.k, .int .i64 c2.la, .int .i64 c2.n, .int .i64 c2.i, .slice A6 m6 q6, .slice B6 p6 r6] 37)
  replace T2 := T2.alloc (.cells #[.int .i64 c2.k, .int .i64 c2.la, .int .i64 c2.n, .int .i64 c2.i, .slice A6 m6 q6, .slice B6 p6 r6] 37)
  replace D5 := D5.alloc (.cells #[.int .i64 c2.k, .int .i64 c2.la, .int .i64 c2.n, .int .i64 c2.i, .slice A6 m6 q6, .slice B6 p6 r6] 37)
  replace L5 := L5.alloc (.cells #[.int .i64 c2.k, .int .i64 c2.la, .int .i64 c2.n, .int .i64 c2.i, .slice A6 m6 q6, .slice B6 p6 r6] 37)
  replace V1 := V1.alloc (.cells #[.int .i64 c2.k, .int .i64 c2.la, .int .i64 c2.n, .int .i64 c2.i, .slice A6 m6 q6, .slice B6 p6 r6] 37)
  replace D6 := D6.alloc (.cells #[.int .i64 c2.k, .int .i64 c2.la, .int .i64 c2.n, .int .i64 c2.i, .slice A6 m6 q6, .slice B6 p6 r6] 37)
  replace L6 := L6.alloc (.cells #[.int .i64 c2.k, .int .i64 c2.la, .int .i64 c2.n, .int .i64 c2.i, .slice A6 m6 q6, .slice B6 p6 r6] 37)
  replace bb := bb.alloc bb.size (.cells #[.int .i64 c2.k, .int .i64 c2.la, .int .i64 c2.n, .int .i64 c2.i, .slice A6 m6 q6, .slice B6 p6 r6] 37)
  have V2 := Blk.new w6 #[.int .i64 c2.k, .int .i64 c2.la, .int .i64 c2.n, .int .i64 c2.i, .slice A6 m6 q6, .slice B6 p6 r6] 37
  obtain ⟨y0, y1, y2, y3, y4, y5, _⟩ := V2.six
  go_wp2_with fail
  clear V1q0 V1q1 V1q2 V1q3 V1q4 V1q5 V1r0 V1r1 V1r2 V1r3 V1r4 V1r5
  generalize (w6.alloc (.cells #[.int .i64 c2.k, .int .i64 c2.la, .int .i64 c2.n, .int .i64 c2.i, .slice A6 m6 q6, .slice B6 p6 r6] 37)) = wc at *
  clear y0 y1 y2 y3 y4 y5
  have hC := gSame_any c2.k c2.la c2.n c2.i A5 m5 q5 B5 p5 r5 c2.d c2.l c2.k c2.la c2.n c2.i A6 m6 q6 B6 p6 r6 c2.d c2.l wc D5 D6 L5 L6
  rw [csame_self] at hC
  refine hC.mono ?_
  clear hC
  rintro e w7 ⟨rfl, b7⟩
  replace S := S.below b7
  replace R := R.below b7
  replace B := B.below b7
  replace X := X.under b7
  replace T1 := T1.below b7
  replace T2 := T2.below b7
  replace D5 := D5.below b7
  replace L5 := L5.below b7
  replace V1 := V1.under b7
  replace D6 := D6.below b7
  replace L6 := L6.below b7
  replace V2 := V2.under b7
  replace bb := bb.trans (b7.mono bb.size)
  clear V1 V2 D5 D6 L5 L6
  obtain ⟨ck, hck⟩ : ∃ x, cchk k la n i md xs = x := ⟨_, rfl⟩
  have hK1 := fun W r => chCheck_any (F := G) k la n i Ad md cd Al ml cl xs W r hla0 hla'.out
  have hK2 := fun W r => gCheck_any (F := G) k la n i Ad md cd Al ml cl xs W r hla0 hla'.out
  simp only [hck] at hK1 hK2
  replace hck := Lib.hid hck
  replace her := Lib.hid her
  go_wp2_with fail
  refine wp_region_held_drew (S := fun w' => Below w7.heap.size w7 w') (by kernel_rfl) (Below.refl _ _).drew (fun hHeld => ?_)
  try dsimp only at hHeld
  have bd : Below w7.heap.size w7 w7.drew := (Below.refl w7.heap.size w7).drew
  have Xd := X.drew
  have Rd := R.drew
  have T1d := T1.drew
  have T2d := T2.drew
  have bbd := bb.drew
  generalize w7.drew = wd at *
  try simp only [Act.put, List.setIfInBounds_toArray, List.set_cons_zero, List.set_cons_succ]
  refine wpAnyH_take (i := 0) (v := ?_) (by simp only [List.getElem?_toArray, List.getElem?_cons_zero]; rfl) (by kernel_rfl) (by kernel_rfl) (by kernel_rfl) (by intro _ _ _ h; exact h) (Or.inl ⟨by rfl, ?_⟩) hHeld ?_
  rotate_left 1
  · intro wq hSw
    try dsimp only at hSw
    go_simp
    try (with_reducible rfl)
  try simp only [Act.put, List.setIfInBounds_toArray, List.set_cons_zero, List.set_cons_succ]
  refine wpAnyH_take (i := 1) (v := ?_) (by simp only [List.getElem?_toArray, List.getElem?_cons_succ, List.getElem?_cons_zero]; rfl) (by kernel_rfl) (by kernel_rfl) (by kernel_rfl) (by intro _ _ _ h; exact h) (Or.inl ⟨by rfl, ?_⟩) hHeld ?_
  rotate_left 1
  · intro wq hSw
    try dsimp only at hSw
    go_simp
    try (with_reducible rfl)
  try simp only [Act.put, List.setIfInBounds_toArray, List.set_cons_zero, List.set_cons_succ]
  refine wpAnyH_take (i := 2) (v := ?_) (by simp only [List.getElem?_toArray, List.getElem?_cons_succ, List.getElem?_cons_zero]; rfl) (by kernel_rfl) (by kernel_rfl) (by kernel_rfl) (by intro _ _ _ h; exact h) (Or.inl ⟨by rfl, ?_⟩) hHeld ?_
  rotate_left 1
  · intro wq hSw
    try dsimp only at hSw
    obtain ⟨x0', x1', x2', x3', x4', x5', _⟩ := (X.under hSw).six
    go_simp
    try (with_reducible rfl)
  try simp only [Act.put, List.setIfInBounds_toArray, List.set_cons_zero, List.set_cons_succ]
  refine wpAnyH_take (i := 4) (v := ?_) (by simp only [List.getElem?_toArray, List.getElem?_cons_succ, List.getElem?_cons_zero]; rfl) (by kernel_rfl) (by kernel_rfl) (by kernel_rfl) (by intro _ _ _ h; exact h) (Or.inl ⟨by rfl, ?_⟩) hHeld ?_
  rotate_left 1
  · intro wq hSw
    try dsimp only at hSw
    obtain ⟨x0', x1', x2', x3', x4', x5', _⟩ := (X.under hSw).six
    go_simp
    try (with_reducible rfl)
  try simp only [Act.put, List.setIfInBounds_toArray, List.set_cons_zero, List.set_cons_succ]
  refine wpAnyH_ready (rs := [3]) (by kernel_rfl) (by simp) ?_
  refine AllReadyH.cons (by simp only [List.getElem?_toArray, List.getElem?_cons_succ, List.getElem?_cons_zero]; rfl) (fun K hK => ?_) AllReadyH.nil
  go_simp
  refine (hK1 wd Rd).mono ?_
  rintro e u3 ⟨rfl, bN⟩
  have Bu3 : Below w7.heap.size w7 u3 := bd.trans (bN.mono bd.size)
  replace X := Xd.under bN
  replace R := Rd.below bN
  replace T1 := T1d.below bN
  replace T2 := T2d.below bN
  replace bb := bbd.trans (bN.mono bbd.size)
  clear bN
  go_wp2_with fail
  refine hK.out _ _ (Bu3) (fun _ => wpAnyH_stronger (S' := fun w' => Below u3.heap.size u3 w') (fun w' h => Below.trans Bu3 (h.mono Bu3.size)) _ _ _ _ ?_)
  clear hK K hHeld
  have hHeld := Below.refl u3.heap.size u3
  try simp only [Act.put, List.setIfInBounds_toArray, List.set_cons_zero, List.set_cons_succ]
  refine wpAnyH_ready (rs := [5]) (by kernel_rfl) (by simp) ?_
  refine AllReadyH.cons (by simp only [List.getElem?_toArray, List.getElem?_cons_succ, List.getElem?_cons_zero]; rfl) (fun K hK => ?_) AllReadyH.nil
  go_simp
  refine (hK2 u3 R).mono ?_
  rintro e u5 ⟨rfl, bN⟩
  have Bu5 : Below u3.heap.size u3 u5 := bN
  replace X := X.under bN
  replace R := R.below bN
  replace T1 := T1.below bN
  replace T2 := T2.below bN
  replace bb := bb.trans (bN.mono bb.size)
  clear bN
  go_wp2_with fail
  refine hK.out _ _ (Bu5) (fun _ => wpAnyH_stronger (S' := fun w' => Below u5.heap.size u5 w') (fun w' h => Below.trans Bu5 (h.mono Bu5.size)) _ _ _ _ ?_)
  clear hK K hHeld
  have hHeld := Below.refl u5.heap.size u5
  try simp only [Act.put, List.setIfInBounds_toArray, List.set_cons_zero, List.set_cons_succ]
  refine wpAnyH_take (i := 6) (v := ?_) (by simp only [List.getElem?_toArray, List.getElem?_cons_succ, List.getElem?_cons_zero]; rfl) (by kernel_rfl) (by kernel_rfl) (by kernel_rfl) (by intro _ _ _ h; exact h) (Or.inl ⟨by rfl, ?_⟩) hHeld ?_
  rotate_left 1
  · intro wq hSw
    try dsimp only at hSw
    go_simp
    try (with_reducible rfl)
  try simp only [Act.put, List.setIfInBounds_toArray, List.set_cons_zero, List.set_cons_succ]
  refine wpAnyH_take (i := 7) (v := ?_) (by simp only [List.getElem?_toArray, List.getElem?_cons_succ, List.getElem?_cons_zero]; rfl) (by kernel_rfl) (by kernel_rfl) (by kernel_rfl) (by intro _ _ _ h; exact h) (Or.inl ⟨by rfl, ?_⟩) hHeld ?_
  rotate_left 1
  · intro wq hSw
    try dsimp only at hSw
    go_simp
    try (with_reducible rfl)
  try simp only [Act.put, List.setIfInBounds_toArray, List.set_cons_zero, List.set_cons_succ]
  refine wpAnyH_take (i := 8) (v := ?_) (by simp only [List.getElem?_toArray, List.getElem?_cons_succ, List.getElem?_cons_zero]; rfl) (by kernel_rfl) (by kernel_rfl) (by kernel_rfl) (by intro _ _ _ h; exact h) (Or.inl ⟨by rfl, ?_⟩) hHeld ?_
  rotate_left 1
  · intro wq hSw
    try dsimp only at hSw
    go_simp
    try (with_reducible rfl)
  try simp only [Act.put, List.setIfInBounds_toArray, List.set_cons_zero, List.set_cons_succ]
  refine wpAnyH_take (i := 9) (v := ?_) (by simp only [List.getElem?_toArray, List.getElem?_cons_succ, List.getElem?_cons_zero]; rfl) (by kernel_rfl) (by kernel_rfl) (by kernel_rfl) (by intro _ _ _ h; exact h) (Or.inl ⟨by rfl, ?_⟩) hHeld ?_
  rotate_left 1
  · intro wq hSw
    try dsimp only at hSw
    go_simp
    try (with_reducible rfl)
  try simp only [Act.put, List.setIfInBounds_toArray, List.set_cons_zero, List.set_cons_succ]
  refine wpAnyH_take (i := 10) (v := ?_) (by simp only [List.getElem?_toArray, List.getElem?_cons_succ, List.getElem?_cons_zero]; rfl) (by kernel_rfl) (by kernel_rfl) (by kernel_rfl) (by intro _ _ _ h; exact h) (Or.inl ⟨by rfl, ?_⟩) hHeld ?_
  rotate_left 1
  · intro wq hSw
    try dsimp only at hSw
    have qs := str_of (T1.below hSw)
    go_simp
    try (with_reducible rfl)
  try simp only [Act.put, List.setIfInBounds_toArray, List.set_cons_zero, List.set_cons_succ]
  refine wpAnyH_take (i := 11) (v := ?_) (by simp only [List.getElem?_toArray, List.getElem?_cons_succ, List.getElem?_cons_zero]; rfl) (by kernel_rfl) (by kernel_rfl) (by kernel_rfl) (by intro _ _ _ h; exact h) (Or.inl ⟨by rfl, ?_⟩) hHeld ?_
  rotate_left 1
  · intro wq hSw
    try dsimp only at hSw
    go_simp
    try (with_reducible rfl)
  try simp only [Act.put, List.setIfInBounds_toArray, List.set_cons_zero, List.set_cons_succ]
  refine wpAnyH_take (i := 12) (v := ?_) (by simp only [List.getElem?_toArray, List.getElem?_cons_succ, List.getElem?_cons_zero]; rfl) (by kernel_rfl) (by kernel_rfl) (by kernel_rfl) (by intro _ _ _ h; exact h) (Or.inl ⟨by rfl, ?_⟩) hHeld ?_
  rotate_left 1
  · intro wq hSw
    try dsimp only at hSw
    have qs := str_of (T2.below hSw)
    go_simp
    try (with_reducible rfl)
  try simp only [Act.put, List.setIfInBounds_toArray, List.set_cons_zero, List.set_cons_succ]
  refine wpAnyH_take (i := 13) (v := ?_) (by simp only [List.getElem?_toArray, List.getElem?_cons_succ, List.getElem?_cons_zero]; rfl) (by kernel_rfl) (by kernel_rfl) (by kernel_rfl) (by intro _ _ _ h; exact h) (Or.inl ⟨by rfl, ?_⟩) hHeld ?_
  rotate_left 1
  · intro wq hSw
    try dsimp only at hSw
    go_simp
    try (with_reducible rfl)
  try simp only [Act.put, List.setIfInBounds_toArray, List.set_cons_zero, List.set_cons_succ]
  refine wpAnyH_take (i := 14) (v := ?_) (by simp only [List.getElem?_toArray, List.getElem?_cons_succ, List.getElem?_cons_zero]; rfl) (by kernel_rfl) (by kernel_rfl) (by kernel_rfl) (by intro _ _ _ h; exact h) (Or.inl ⟨by rfl, ?_⟩) hHeld ?_
  rotate_left 1
  · intro wq hSw
    try dsimp only at hSw
    go_simp
    try (with_reducible rfl)
  try simp only [Act.put, List.setIfInBounds_toArray, List.set_cons_zero, List.set_cons_succ]
  refine wpAnyH_take (i := 15) (v := ?_) (by simp only [List.getElem?_toArray, List.getElem?_cons_succ, List.getElem?_cons_zero]; rfl) (by kernel_rfl) (by kernel_rfl) (by kernel_rfl) (by intro _ _ _ h; exact h) (Or.inl ⟨by rfl, ?_⟩) hHeld ?_
  rotate_left 1
  · intro wq hSw
    try dsimp only at hSw
    go_simp
    try (with_reducible rfl)
  try simp only [Act.put, List.setIfInBounds_toArray, List.set_cons_zero, List.set_cons_succ]
  refine wpAnyH_take (i := 16) (v := ?_) (by simp only [List.getElem?_toArray, List.getElem?_cons_succ, List.getElem?_cons_zero]; rfl) (by kernel_rfl) (by kernel_rfl) (by kernel_rfl) (by intro _ _ _ h; exact h) (Or.inl ⟨by rfl, ?_⟩) hHeld ?_
  rotate_left 1
  · intro wq hSw
    try dsimp only at hSw
    go_simp
    try (with_reducible rfl)
  try simp only [Act.put, List.setIfInBounds_toArray, List.set_cons_zero, List.set_cons_succ]
  refine wpAnyH_take (i := 17) (v := ?_) (by simp only [List.getElem?_toArray, List.getElem?_cons_succ, List.getElem?_cons_zero]; rfl) (by kernel_rfl) (by kernel_rfl) (by kernel_rfl) (by intro _ _ _ h; exact h) (Or.inl ⟨by rfl, ?_⟩) hHeld ?_
  rotate_left 1
  · intro wq hSw
    try dsimp only at hSw
    go_simp
    try (with_reducible rfl)
  try simp only [Act.put, List.setIfInBounds_toArray, List.set_cons_zero, List.set_cons_succ]
  refine wpAnyH_take (i := 18) (v := ?_) (by simp only [List.getElem?_toArray, List.getElem?_cons_succ, List.getElem?_cons_zero]; rfl) (by kernel_rfl) (by kernel_rfl) (by kernel_rfl) (by intro _ _ _ h; exact h) (Or.inl ⟨by rfl, ?_⟩) hHeld ?_
  rotate_left 1
  · intro wq hSw
    try dsimp only at hSw
    go_simp
    try (with_reducible rfl)
  try simp only [Act.put, List.setIfInBounds_toArray, List.set_cons_zero, List.set_cons_succ]
  refine wpAnyH_take (i := 19) (v := ?_) (by simp only [List.getElem?_toArray, List.getElem?_cons_succ, List.getElem?_cons_zero]; rfl) (by kernel_rfl) (by kernel_rfl) (by kernel_rfl) (by intro _ _ _ h; exact h) (Or.inl ⟨by rfl, ?_⟩) hHeld ?_
  rotate_left 1
  · intro wq hSw
    try dsimp only at hSw
    go_simp
    try (with_reducible rfl)
  try simp only [Act.put, List.setIfInBounds_toArray, List.set_cons_zero, List.set_cons_succ]
  refine wpAnyH_take (i := 20) (v := ?_) (by simp only [List.getElem?_toArray, List.getElem?_cons_succ, List.getElem?_cons_zero]; rfl) (by kernel_rfl) (by kernel_rfl) (by kernel_rfl) (by intro _ _ _ h; exact h) (Or.inl ⟨by rfl, ?_⟩) hHeld ?_
  rotate_left 1
  · intro wq hSw
    try dsimp only at hSw
    go_simp
    try (with_reducible rfl)
  try simp only [Act.put, List.setIfInBounds_toArray, List.set_cons_zero, List.set_cons_succ]
  refine wpAnyH_take (i := 21) (v := ?_) (by simp only [List.getElem?_toArray, List.getElem?_cons_succ, List.getElem?_cons_zero]; rfl) (by kernel_rfl) (by kernel_rfl) (by kernel_rfl) (by intro _ _ _ h; exact h) (Or.inl ⟨by rfl, ?_⟩) hHeld ?_
  rotate_left 1
  · intro wq hSw
    try dsimp only at hSw
    go_simp
    try (with_reducible rfl)
  try simp only [Act.put, List.setIfInBounds_toArray, List.set_cons_zero, List.set_cons_succ]
  refine wpAnyH_take (i := 22) (v := ?_) (by simp only [List.getElem?_toArray, List.getElem?_cons_succ, List.getElem?_cons_zero]; rfl) (by kernel_rfl) (by kernel_rfl) (by kernel_rfl) (by intro _ _ _ h; exact h) (Or.inl ⟨by rfl, ?_⟩) hHeld ?_
  rotate_left 1
  · intro wq hSw
    try dsimp only at hSw
    go_simp
    try (with_reducible rfl)
  try simp only [Act.put, List.setIfInBounds_toArray, List.set_cons_zero, List.set_cons_succ]
  refine wpAnyH_take (i := 23) (v := ?_) (by simp only [List.getElem?_toArray, List.getElem?_cons_succ, List.getElem?_cons_zero]; rfl) (by kernel_rfl) (by kernel_rfl) (by kernel_rfl) (by intro _ _ _ h; exact h) (Or.inl ⟨by rfl, ?_⟩) hHeld ?_
  rotate_left 1
  · intro wq hSw
    try dsimp only at hSw
    go_simp
    try (with_reducible rfl)
  try simp only [Act.put, List.setIfInBounds_toArray, List.set_cons_zero, List.set_cons_succ]
  refine wpAnyH_take (i := 24) (v := ?_) (by simp only [List.getElem?_toArray, List.getElem?_cons_succ, List.getElem?_cons_zero]; rfl) (by kernel_rfl) (by kernel_rfl) (by kernel_rfl) (by intro _ _ _ h; exact h) (Or.inl ⟨by rfl, ?_⟩) hHeld ?_
  rotate_left 1
  · intro wq hSw
    try dsimp only at hSw
    go_simp
    try (with_reducible rfl)
  try simp only [Act.put, List.setIfInBounds_toArray, List.set_cons_zero, List.set_cons_succ]
  refine wpAnyH_take (i := 25) (v := ?_) (by simp only [List.getElem?_toArray, List.getElem?_cons_succ, List.getElem?_cons_zero]; rfl) (by kernel_rfl) (by kernel_rfl) (by kernel_rfl) (by intro _ _ _ h; exact h) (Or.inl ⟨by rfl, ?_⟩) hHeld ?_
  rotate_left 1
  · intro wq hSw
    try dsimp only at hSw
    go_simp
    try (with_reducible rfl)
  try simp only [Act.put, List.setIfInBounds_toArray, List.set_cons_zero, List.set_cons_succ]
  refine wpAnyH_take (i := 26) (v := ?_) (by simp only [List.getElem?_toArray, List.getElem?_cons_succ, List.getElem?_cons_zero]; rfl) (by kernel_rfl) (by kernel_rfl) (by kernel_rfl) (by intro _ _ _ h; exact h) (Or.inl ⟨by rfl, ?_⟩) hHeld ?_
  rotate_left 1
  · intro wq hSw
    try dsimp only at hSw
    go_simp
    try (with_reducible rfl)
  try simp only [Act.put, List.setIfInBounds_toArray, List.set_cons_zero, List.set_cons_succ]
  refine wpAnyH_take (i := 27) (v := ?_) (by simp only [List.getElem?_toArray, List.getElem?_cons_succ, List.getElem?_cons_zero]; rfl) (by kernel_rfl) (by kernel_rfl) (by kernel_rfl) (by intro _ _ _ h; exact h) (Or.inl ⟨by rfl, ?_⟩) hHeld ?_
  rotate_left 1
  · intro wq hSw
    try dsimp only at hSw
    go_simp
    try (with_reducible rfl)
  try simp only [Act.put, List.setIfInBounds_toArray, List.set_cons_zero, List.set_cons_succ]
  refine wpAnyH_take (i := 28) (v := ?_) (by simp only [List.getElem?_toArray, List.getElem?_cons_succ, List.getElem?_cons_zero]; rfl) (by kernel_rfl) (by kernel_rfl) (by kernel_rfl) (by intro _ _ _ h; exact h) (Or.inl ⟨by rfl, ?_⟩) hHeld ?_
  rotate_left 1
  · intro wq hSw
    try dsimp only at hSw
    go_simp
    try (with_reducible rfl)
  try simp only [Act.put, List.setIfInBounds_toArray, List.set_cons_zero, List.set_cons_succ]
  refine wpAnyH_done (by kernel_rfl) ?_ _
  go_wp2
  go_ret
  exact ⟨rfl, bb.trans (hHeld.mono bb.size)⟩
theorem ChangeTells_walk (a0_0 : Int) (a0_1 : Int) (a0_2 : Int) (a0_3 : Int) (a0_4 : Option Addr) (len0_4 cap0_4 : Nat) (z0_4 : List Int) (a0_5 : Option Addr) (len0_5 cap0_5 : Nat) (a1 : Option Addr) (len1 cap1 : Nat) (z1 : List Int) (w : World) (w0_0 : (Lit.int .i64 a0_0).wf = true) (w0_1 : (Lit.int .i64 a0_1).wf = true) (w0_2 : (Lit.int .i64 a0_2).wf = true) (w0_3 : (Lit.int .i64 a0_3).wf = true) (w0_4 : IsRow .u8 w a0_4 len0_4 cap0_4 z0_4) (w0_5 : IsSts [.num .i64, .num .i64, .num .i64, .num .i64, .row .u8] w a0_5 len0_5 cap0_5) (w1 : IsRow .u8 w a1 len1 cap1 z1) :
    Calls Try.prog 5 #[.agg #[.int .i64 a0_0, .int .i64 a0_1, .int .i64 a0_2, .int .i64 a0_3, .slice a0_4 len0_4 cap0_4, .slice a0_5 len0_5 cap0_5], .slice a1 len1 cap1] w (AwakePost w) := by
  obtain ⟨d, S⟩ := w0_4.bytes
  obtain ⟨xs, hla, R⟩ := exts_of_sts w0_5
  obtain ⟨b, B⟩ := w1.bytes
  exact chTells_core a0_0 a0_1 a0_2 a0_3 a0_4 len0_4 cap0_4 a0_5 len0_5 cap0_5 d xs a1 len1 cap1 b w (ext_wf w0_1) hla S R B
end Go.Proofs.Ytbhohjbgbachhaa
