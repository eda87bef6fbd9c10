/-
  Merged: XIm6 XIm7 XIm8 XIm9 XIm10.
-/
import Derived.Test.YtagageidiebogaaImA
/-
  Contracts of image: Fill, Write, Read (written by gen_im6.py).
-/
namespace Go.Wag
open Go.RowKit
set_option linter.unusedVariables false
theorem fill_no {l : List Cp} {lba n kd g : Int} (h : hasF l.length lba n = false ∨ (kd ≠ 0 ∧ kd ≠ 1) ∨ genF g = false) : fillMay l lba n kd g = false := by
  unfold fillMay
  rcases h with h | h | h
  · rw [h]; rfl
  · rw [decide_eq_false (by omega), Bool.and_false, Bool.false_and]
  · rw [h, Bool.and_false]
theorem fill_yes {l : List Cp} {lba n kd g : Int} (h1 : hasF l.length lba n = true) (h2 : kd = 0 ∨ kd = 1) (h3 : genF g = true) : fillMay l lba n kd g = true := by
  unfold fillMay
  rw [h1, h3, decide_eq_true h2]
  rfl
theorem has_nat {k : Nat} {lba n : Int} (h : hasF k lba n = true) : ∃ a m : Nat, lba = (a : Int) ∧ n = (m : Int) ∧ 1 ≤ m ∧ a + m ≤ k := by
  have := of_decide_eq_true h
  exact ⟨lba.toNat, n.toNat, by omega, by omega, by omega, by omega⟩
theorem gen_wf {g : Int} (h : genF g = true) : (Lit.int .i64 g).wf = true := by
  have := of_decide_eq_true h
  exact wf_small (by omega) (by omega)
theorem wr_no {l : List Cp} {lba g : Int} {b : List UInt8} (h : b.length % 32 ≠ 0 ∨ hasF l.length lba ((b.length / 32 : Nat) : Int) = false ∨ genF g = false) : wrMay l lba g b = false := by
  unfold wrMay
  rcases h with h | h | h
  · rw [decide_eq_false h]; rfl
  · rw [h, Bool.and_false, Bool.false_and]
  · rw [h, Bool.and_false]
theorem wr_yes {l : List Cp} {lba g : Int} {b : List UInt8} (h1 : b.length % 32 = 0) (h2 : hasF l.length lba ((b.length / 32 : Nat) : Int) = true) (h3 : genF g = true) : wrMay l lba g b = true := by
  unfold wrMay
  rw [h2, h3, decide_eq_true h1]
  rfl
end Go.Wag
namespace Go.Proofs.Ytagageidiebogaa
open Go.RowKit Go.Wag
set_option linter.unusedVariables false
set_option linter.unusedSimpArgs false
set_option maxRecDepth 20000
theorem done_cerr {B : Nat} {R : World → Prop} {w w0 : World} {ys : List Cp} {er : Int} {e : Ending} {w' : World} (h : DonePost B R w0 ys er e w') (hB : B = w.heap.size) (hb : Below w.heap.size w w0) : CErr w ys er e w' := by
  obtain ⟨A, n, c, hl, he, hR, hbb, _⟩ := h
  subst hB
  exact ⟨A, n, c, hl, he, hR.imp (fun z _ hz => Nat.le_trans hb.size hz), hb.trans hbb⟩
set_option maxHeartbeats 4000000 in
theorem iFill_any {F : Nat → Prop} (xs : List Cp) (A : Option Addr) (n c : Nat) (lba m kd g : Int) (w : World) (h : Rs cpE F w A n c xs) (hn : n ≤ 1000000) (hlb : lba ≤ 9223372036854775807) :
    Calls Try.prog 16 #[.slice A n c, .int .i64 lba, .int .i64 m, .int .i64 kd, .int .i64 g] w (CErr w (doneL xs (fillMay xs lba m kd g) (fillR xs lba m kd g)) (doneE xs (fillMay xs lba m kd g))) := by
  have HN : Hid (xs.length = n) := h.len
  have hent : ∀ (kn kk kg kl : Nat) (u : Value) (w : World), (callFunc 34 (#[u] ++ #[.pointer (some ⟨kn, 0, none⟩), .pointer (some ⟨kk, 0, none⟩), .pointer (some ⟨kg, 0, none⟩), .pointer (some ⟨kl, 0, none⟩)])).run Try.prog w = .ok (.enter 34 (#[u] ++ #[.pointer (some ⟨kn, 0, none⟩), .pointer (some ⟨kk, 0, none⟩), .pointer (some ⟨kg, 0, none⟩), .pointer (some ⟨kl, 0, none⟩)])) w := fun _ _ _ _ _ _ => by rfl
  cases hh : hasF n lba m
  · skip
    have bb := Below.refl w.heap.size w
    go_enter Try.func16, Try.ntmps16
    have hs0 := Nat.le_refl w.heap.size
    replace h := h.alloc (.cells #[.int .i64 lba] 3)
    replace bb := bb.alloc bb.size (.cells #[.int .i64 lba] 3)
    have Vl := Blk.new w #[.int .i64 lba] 3
    replace h := h.alloc (.cells #[.int .i64 m] 3)
    replace Vl := Vl.alloc (.cells #[.int .i64 m] 3)
    replace bb := bb.alloc bb.size (.cells #[.int .i64 m] 3)
    have Vn := Blk.new (w.alloc (.cells #[.int .i64 lba] 3)) #[.int .i64 m] 3
    simp only [World.size_alloc] at Vn
    replace h := h.alloc (.cells #[.int .i64 kd] 3)
    replace Vl := Vl.alloc (.cells #[.int .i64 kd] 3)
    replace Vn := Vn.alloc (.cells #[.int .i64 kd] 3)
    replace bb := bb.alloc bb.size (.cells #[.int .i64 kd] 3)
    have Vk := Blk.new ((w.alloc (.cells #[.int .i64 lba] 3)).alloc (.cells #[.int .i64 m] 3)) #[.int .i64 kd] 3
    simp only [World.size_alloc] at Vk
    replace h := h.alloc (.cells #[.int .i64 g] 3)
    replace Vl := Vl.alloc (.cells #[.int .i64 g] 3)
    replace Vn := Vn.alloc (.cells #[.int .i64 g] 3)
    replace Vk := Vk.alloc (.cells #[.int .i64 g] 3)
    replace bb := bb.alloc bb.size (.cells #[.int .i64 g] 3)
    have Vg := Blk.new (((w.alloc (.cells #[.int .i64 lba] 3)).alloc (.cells #[.int .i64 m] 3)).alloc (.cells #[.int .i64 kd] 3)) #[.int .i64 g] 3
    simp only [World.size_alloc] at Vg
    go_wp2_with fail
    generalize ((((w.alloc (.cells #[.int .i64 lba] 3)).alloc (.cells #[.int .i64 m] 3)).alloc (.cells #[.int .i64 kd] 3)).alloc (.cells #[.int .i64 g] 3)) = wa at *
    obtain ⟨kl, hkl⟩ : ∃ k, w.heap.size = k := ⟨_, rfl⟩
    simp only [hkl] at Vl Vn Vk Vg ⊢
    obtain ⟨kn, hkn⟩ : ∃ k, kl + 1 = k := ⟨_, rfl⟩
    simp only [hkn] at Vn Vk Vg ⊢
    obtain ⟨kk, hkk⟩ : ∃ k, kn + 1 = k := ⟨_, rfl⟩
    simp only [hkk] at Vk Vg ⊢
    obtain ⟨kg, hkg⟩ : ∃ k, kk + 1 = k := ⟨_, rfl⟩
    simp only [hkg] at Vg ⊢
    replace hkg := Lib.hid hkg
    replace hkk := Lib.hid hkk
    replace hkn := Lib.hid hkn
    replace hkl := Lib.hid hkl
    have hC := iHas_any A n c lba m wa (by omega) hlb
    rw [hh] at hC
    refine hC.mono ?_
    clear hC
    rintro e w1 ⟨rfl, rfl⟩
    obtain ⟨k0, _⟩ := Vk.one
    obtain ⟨g0, _⟩ := Vg.one
    have hmay : fillMay xs lba m kd g = false := fill_no (.inl (by rw [HN.out]; exact hh))
    have hD := iDone_any w.heap.size 34 #[.pointer (some ⟨kn, 0, none⟩), .pointer (some ⟨kk, 0, none⟩), .pointer (some ⟨kg, 0, none⟩), .pointer (some ⟨kl, 0, none⟩)] false (fun _ => True) xs (fillR xs lba m kd g) A n c wa h bb.size hn (hent kn kk kg kl) (fun _ hh => absurd hh (by decide)) (fun _ hh => absurd hh (by decide))
    replace hmay := Lib.hid hmay
    replace hD := Lib.hid hD
    go_wp2_with fail
    refine hD.out.mono ?_
    rintro e w2 ⟨A2, n2, c2, hl2, rfl, R2, b2, _⟩
    go_wp2
    go_ret2
    rw [hmay.out]
    exact ⟨A2, n2, c2, hl2, rfl, R2.imp (fun z _ hz => by have := bb.size; omega), bb.trans b2⟩
  by_cases hkd : kd = 0 ∨ kd = 1
  · cases hgn : genF g
    · rcases hkd with rfl | rfl
      · skip
        have bb := Below.refl w.heap.size w
        go_enter Try.func16, Try.ntmps16
        have hs0 := Nat.le_refl w.heap.size
        replace h := h.alloc (.cells #[.int .i64 lba] 3)
        replace bb := bb.alloc bb.size (.cells #[.int .i64 lba] 3)
        have Vl := Blk.new w #[.int .i64 lba] 3
        replace h := h.alloc (.cells #[.int .i64 m] 3)
        replace Vl := Vl.alloc (.cells #[.int .i64 m] 3)
        replace bb := bb.alloc bb.size (.cells #[.int .i64 m] 3)
        have Vn := Blk.new (w.alloc (.cells #[.int .i64 lba] 3)) #[.int .i64 m] 3
        simp only [World.size_alloc] at Vn
        replace h := h.alloc (.cells #[.int .i64 0] 3)
        replace Vl := Vl.alloc (.cells #[.int .i64 0] 3)
        replace Vn := Vn.alloc (.cells #[.int .i64 0] 3)
        replace bb := bb.alloc bb.size (.cells #[.int .i64 0] 3)
        have Vk := Blk.new ((w.alloc (.cells #[.int .i64 lba] 3)).alloc (.cells #[.int .i64 m] 3)) #[.int .i64 0] 3
        simp only [World.size_alloc] at Vk
        replace h := h.alloc (.cells #[.int .i64 g] 3)
        replace Vl := Vl.alloc (.cells #[.int .i64 g] 3)
        replace Vn := Vn.alloc (.cells #[.int .i64 g] 3)
        replace Vk := Vk.alloc (.cells #[.int .i64 g] 3)
        replace bb := bb.alloc bb.size (.cells #[.int .i64 g] 3)
        have Vg := Blk.new (((w.alloc (.cells #[.int .i64 lba] 3)).alloc (.cells #[.int .i64 m] 3)).alloc (.cells #[.int .i64 0] 3)) #[.int .i64 g] 3
        simp only [World.size_alloc] at Vg
        go_wp2_with fail
        generalize ((((w.alloc (.cells #[.int .i64 lba] 3)).alloc (.cells #[.int .i64 m] 3)).alloc (.cells #[.int .i64 0] 3)).alloc (.cells #[.int .i64 g] 3)) = wa at *
        obtain ⟨kl, hkl⟩ : ∃ k, w.heap.size = k := ⟨_, rfl⟩
        simp only [hkl] at Vl Vn Vk Vg ⊢
        obtain ⟨kn, hkn⟩ : ∃ k, kl + 1 = k := ⟨_, rfl⟩
        simp only [hkn] at Vn Vk Vg ⊢
        obtain ⟨kk, hkk⟩ : ∃ k, kn + 1 = k := ⟨_, rfl⟩
        simp only [hkk] at Vk Vg ⊢
        obtain ⟨kg, hkg⟩ : ∃ k, kk + 1 = k := ⟨_, rfl⟩
        simp only [hkg] at Vg ⊢
        replace hkg := Lib.hid hkg
        replace hkk := Lib.hid hkk
        replace hkn := Lib.hid hkn
        replace hkl := Lib.hid hkl
        have hC := iHas_any A n c lba m wa (by omega) hlb
        rw [hh] at hC
        refine hC.mono ?_
        clear hC
        rintro e w1 ⟨rfl, rfl⟩
        obtain ⟨k0, _⟩ := Vk.one
        obtain ⟨g0, _⟩ := Vg.one
        go_wp2_with fail
        have hC := iGen_any g wa
        rw [hgn] at hC
        refine hC.mono ?_
        clear hC
        rintro e w1 ⟨rfl, rfl⟩
        have hmay : fillMay xs lba m 0 g = false := fill_no (.inr (.inr hgn))
        have hD := iDone_any w.heap.size 34 #[.pointer (some ⟨kn, 0, none⟩), .pointer (some ⟨kk, 0, none⟩), .pointer (some ⟨kg, 0, none⟩), .pointer (some ⟨kl, 0, none⟩)] false (fun _ => True) xs (fillR xs lba m 0 g) A n c wa h bb.size hn (hent kn kk kg kl) (fun _ hh => absurd hh (by decide)) (fun _ hh => absurd hh (by decide))
        replace hmay := Lib.hid hmay
        replace hD := Lib.hid hD
        go_wp2_with fail
        refine hD.out.mono ?_
        rintro e w2 ⟨A2, n2, c2, hl2, rfl, R2, b2, _⟩
        go_wp2
        go_ret2
        rw [hmay.out]
        exact ⟨A2, n2, c2, hl2, rfl, R2.imp (fun z _ hz => by have := bb.size; omega), bb.trans b2⟩
      · skip
        have bb := Below.refl w.heap.size w
        go_enter Try.func16, Try.ntmps16
        have hs0 := Nat.le_refl w.heap.size
        replace h := h.alloc (.cells #[.int .i64 lba] 3)
        replace bb := bb.alloc bb.size (.cells #[.int .i64 lba] 3)
        have Vl := Blk.new w #[.int .i64 lba] 3
        replace h := h.alloc (.cells #[.int .i64 m] 3)
        replace Vl := Vl.alloc (.cells #[.int .i64 m] 3)
        replace bb := bb.alloc bb.size (.cells #[.int .i64 m] 3)
        have Vn := Blk.new (w.alloc (.cells #[.int .i64 lba] 3)) #[.int .i64 m] 3
        simp only [World.size_alloc] at Vn
        replace h := h.alloc (.cells #[.int .i64 1] 3)
        replace Vl := Vl.alloc (.cells #[.int .i64 1] 3)
        replace Vn := Vn.alloc (.cells #[.int .i64 1] 3)
        replace bb := bb.alloc bb.size (.cells #[.int .i64 1] 3)
        have Vk := Blk.new ((w.alloc (.cells #[.int .i64 lba] 3)).alloc (.cells #[.int .i64 m] 3)) #[.int .i64 1] 3
        simp only [World.size_alloc] at Vk
        replace h := h.alloc (.cells #[.int .i64 g] 3)
        replace Vl := Vl.alloc (.cells #[.int .i64 g] 3)
        replace Vn := Vn.alloc (.cells #[.int .i64 g] 3)
        replace Vk := Vk.alloc (.cells #[.int .i64 g] 3)
        replace bb := bb.alloc bb.size (.cells #[.int .i64 g] 3)
        have Vg := Blk.new (((w.alloc (.cells #[.int .i64 lba] 3)).alloc (.cells #[.int .i64 m] 3)).alloc (.cells #[.int .i64 1] 3)) #[.int .i64 g] 3
        simp only [World.size_alloc] at Vg
        go_wp2_with fail
        generalize ((((w.alloc (.cells #[.int .i64 lba] 3)).alloc (.cells #[.int .i64 m] 3)).alloc (.cells #[.int .i64 1] 3)).alloc (.cells #[.int .i64 g] 3)) = wa at *
        obtain ⟨kl, hkl⟩ : ∃ k, w.heap.size = k := ⟨_, rfl⟩
        simp only [hkl] at Vl Vn Vk Vg ⊢
        obtain ⟨kn, hkn⟩ : ∃ k, kl + 1 = k := ⟨_, rfl⟩
        simp only [hkn] at Vn Vk Vg ⊢
        obtain ⟨kk, hkk⟩ : ∃ k, kn + 1 = k := ⟨_, rfl⟩
        simp only [hkk] at Vk Vg ⊢
        obtain ⟨kg, hkg⟩ : ∃ k, kk + 1 = k := ⟨_, rfl⟩
        simp only [hkg] at Vg ⊢
        replace hkg := Lib.hid hkg
        replace hkk := Lib.hid hkk
        replace hkn := Lib.hid hkn
        replace hkl := Lib.hid hkl
        have hC := iHas_any A n c lba m wa (by omega) hlb
        rw [hh] at hC
        refine hC.mono ?_
        clear hC
        rintro e w1 ⟨rfl, rfl⟩
        obtain ⟨k0, _⟩ := Vk.one
        obtain ⟨g0, _⟩ := Vg.one
        go_wp2_with fail
        have hC := iGen_any g wa
        rw [hgn] at hC
        refine hC.mono ?_
        clear hC
        rintro e w1 ⟨rfl, rfl⟩
        have hmay : fillMay xs lba m 1 g = false := fill_no (.inr (.inr hgn))
        have hD := iDone_any w.heap.size 34 #[.pointer (some ⟨kn, 0, none⟩), .pointer (some ⟨kk, 0, none⟩), .pointer (some ⟨kg, 0, none⟩), .pointer (some ⟨kl, 0, none⟩)] false (fun _ => True) xs (fillR xs lba m 1 g) A n c wa h bb.size hn (hent kn kk kg kl) (fun _ hh => absurd hh (by decide)) (fun _ hh => absurd hh (by decide))
        replace hmay := Lib.hid hmay
        replace hD := Lib.hid hD
        go_wp2_with fail
        refine hD.out.mono ?_
        rintro e w2 ⟨A2, n2, c2, hl2, rfl, R2, b2, _⟩
        go_wp2
        go_ret2
        rw [hmay.out]
        exact ⟨A2, n2, c2, hl2, rfl, R2.imp (fun z _ hz => by have := bb.size; omega), bb.trans b2⟩
    · obtain ⟨la, mm, rfl, rfl, hm1, hfit⟩ := has_nat hh
      have hgw := gen_wf hgn
      rcases hkd with rfl | rfl
      · skip
        have bb := Below.refl w.heap.size w
        go_enter Try.func16, Try.ntmps16
        have hs0 := Nat.le_refl w.heap.size
        replace h := h.alloc (.cells #[.int .i64 (la : Int)] 3)
        replace bb := bb.alloc bb.size (.cells #[.int .i64 (la : Int)] 3)
        have Vl := Blk.new w #[.int .i64 (la : Int)] 3
        replace h := h.alloc (.cells #[.int .i64 (mm : Int)] 3)
        replace Vl := Vl.alloc (.cells #[.int .i64 (mm : Int)] 3)
        replace bb := bb.alloc bb.size (.cells #[.int .i64 (mm : Int)] 3)
        have Vn := Blk.new (w.alloc (.cells #[.int .i64 (la : Int)] 3)) #[.int .i64 (mm : Int)] 3
        simp only [World.size_alloc] at Vn
        replace h := h.alloc (.cells #[.int .i64 0] 3)
        replace Vl := Vl.alloc (.cells #[.int .i64 0] 3)
        replace Vn := Vn.alloc (.cells #[.int .i64 0] 3)
        replace bb := bb.alloc bb.size (.cells #[.int .i64 0] 3)
        have Vk := Blk.new ((w.alloc (.cells #[.int .i64 (la : Int)] 3)).alloc (.cells #[.int .i64 (mm : Int)] 3)) #[.int .i64 0] 3
        simp only [World.size_alloc] at Vk
        replace h := h.alloc (.cells #[.int .i64 g] 3)
        replace Vl := Vl.alloc (.cells #[.int .i64 g] 3)
        replace Vn := Vn.alloc (.cells #[.int .i64 g] 3)
        replace Vk := Vk.alloc (.cells #[.int .i64 g] 3)
        replace bb := bb.alloc bb.size (.cells #[.int .i64 g] 3)
        have Vg := Blk.new (((w.alloc (.cells #[.int .i64 (la : Int)] 3)).alloc (.cells #[.int .i64 (mm : Int)] 3)).alloc (.cells #[.int .i64 0] 3)) #[.int .i64 g] 3
        simp only [World.size_alloc] at Vg
        go_wp2_with fail
        generalize ((((w.alloc (.cells #[.int .i64 (la : Int)] 3)).alloc (.cells #[.int .i64 (mm : Int)] 3)).alloc (.cells #[.int .i64 0] 3)).alloc (.cells #[.int .i64 g] 3)) = wa at *
        obtain ⟨kl, hkl⟩ : ∃ k, w.heap.size = k := ⟨_, rfl⟩
        simp only [hkl] at Vl Vn Vk Vg ⊢
        obtain ⟨kn, hkn⟩ : ∃ k, kl + 1 = k := ⟨_, rfl⟩
        simp only [hkn] at Vn Vk Vg ⊢
        obtain ⟨kk, hkk⟩ : ∃ k, kn + 1 = k := ⟨_, rfl⟩
        simp only [hkk] at Vk Vg ⊢
        obtain ⟨kg, hkg⟩ : ∃ k, kk + 1 = k := ⟨_, rfl⟩
        simp only [hkg] at Vg ⊢
        replace hkg := Lib.hid hkg
        replace hkk := Lib.hid hkk
        replace hkn := Lib.hid hkn
        replace hkl := Lib.hid hkl
        have hC := iHas_any A n c (la : Int) (mm : Int) wa (by omega) hlb
        rw [hh] at hC
        refine hC.mono ?_
        clear hC
        rintro e w1 ⟨rfl, rfl⟩
        obtain ⟨k0, _⟩ := Vk.one
        obtain ⟨g0, _⟩ := Vg.one
        go_wp2_with fail
        have hC := iGen_any g wa
        rw [hgn] at hC
        refine hC.mono ?_
        clear hC
        rintro e w1 ⟨rfl, rfl⟩
        have hmay : fillMay xs (la : Int) (mm : Int) 0 g = true := fill_yes (by rw [HN.out]; exact hh) (.inl rfl) hgn
        have hfr : fillR xs (la : Int) (mm : Int) 0 g = setsF xs la (fun _ => ⟨0, g, z32⟩) mm := rfl
        have hD := iDone_any w.heap.size 34 #[.pointer (some ⟨kn, 0, none⟩), .pointer (some ⟨kk, 0, none⟩), .pointer (some ⟨kg, 0, none⟩), .pointer (some ⟨kl, 0, none⟩)] true (fun _ => True) xs (fillR xs (la : Int) (mm : Int) 0 g) A n c wa h bb.size hn (hent kn kk kg kl) (fun _ _ => by rw [hfr, setsF_len]; exact HN.out) (fun _ _ W gl c' hgl hW hnc hcb hRo => by
          have hls := Vl.lt
          have hns := Vn.lt
          have hks := Vk.lt
          have hgs := Vg.lt
          rw [hfr]
          refine (iFill1_any w.heap.size gl xs n c' kn kk kg kl mm la 0 g W hRo (by have := bb.size; omega) HN.out hnc hcb (Vn.under hW) (Vk.under hW) (Vg.under hW) (Vl.under hW) (by omega) (by omega) (by omega) (by omega) hfit hn (wf_small (by decide) (by decide)) hgw).mono ?_
          rintro e W2 ⟨rfl, r1, r2⟩
          exact ⟨rfl, r1, r2, trivial⟩)
        replace hmay := Lib.hid hmay
        replace hD := Lib.hid hD
        go_wp2_with fail
        refine hD.out.mono ?_
        rintro e w2 ⟨A2, n2, c2, hl2, rfl, R2, b2, _⟩
        go_wp2
        go_ret2
        rw [hmay.out]
        exact ⟨A2, n2, c2, hl2, rfl, R2.imp (fun z _ hz => by have := bb.size; omega), bb.trans b2⟩
      · skip
        have bb := Below.refl w.heap.size w
        go_enter Try.func16, Try.ntmps16
        have hs0 := Nat.le_refl w.heap.size
        replace h := h.alloc (.cells #[.int .i64 (la : Int)] 3)
        replace bb := bb.alloc bb.size (.cells #[.int .i64 (la : Int)] 3)
        have Vl := Blk.new w #[.int .i64 (la : Int)] 3
        replace h := h.alloc (.cells #[.int .i64 (mm : Int)] 3)
        replace Vl := Vl.alloc (.cells #[.int .i64 (mm : Int)] 3)
        replace bb := bb.alloc bb.size (.cells #[.int .i64 (mm : Int)] 3)
        have Vn := Blk.new (w.alloc (.cells #[.int .i64 (la : Int)] 3)) #[.int .i64 (mm : Int)] 3
        simp only [World.size_alloc] at Vn
        replace h := h.alloc (.cells #[.int .i64 1] 3)
        replace Vl := Vl.alloc (.cells #[.int .i64 1] 3)
        replace Vn := Vn.alloc (.cells #[.int .i64 1] 3)
        replace bb := bb.alloc bb.size (.cells #[.int .i64 1] 3)
        have Vk := Blk.new ((w.alloc (.cells #[.int .i64 (la : Int)] 3)).alloc (.cells #[.int .i64 (mm : Int)] 3)) #[.int .i64 1] 3
        simp only [World.size_alloc] at Vk
        replace h := h.alloc (.cells #[.int .i64 g] 3)
        replace Vl := Vl.alloc (.cells #[.int .i64 g] 3)
        replace Vn := Vn.alloc (.cells #[.int .i64 g] 3)
        replace Vk := Vk.alloc (.cells #[.int .i64 g] 3)
        replace bb := bb.alloc bb.size (.cells #[.int .i64 g] 3)
        have Vg := Blk.new (((w.alloc (.cells #[.int .i64 (la : Int)] 3)).alloc (.cells #[.int .i64 (mm : Int)] 3)).alloc (.cells #[.int .i64 1] 3)) #[.int .i64 g] 3
        simp only [World.size_alloc] at Vg
        go_wp2_with fail
        generalize ((((w.alloc (.cells #[.int .i64 (la : Int)] 3)).alloc (.cells #[.int .i64 (mm : Int)] 3)).alloc (.cells #[.int .i64 1] 3)).alloc (.cells #[.int .i64 g] 3)) = wa at *
        obtain ⟨kl, hkl⟩ : ∃ k, w.heap.size = k := ⟨_, rfl⟩
        simp only [hkl] at Vl Vn Vk Vg ⊢
        obtain ⟨kn, hkn⟩ : ∃ k, kl + 1 = k := ⟨_, rfl⟩
        simp only [hkn] at Vn Vk Vg ⊢
        obtain ⟨kk, hkk⟩ : ∃ k, kn + 1 = k := ⟨_, rfl⟩
        simp only [hkk] at Vk Vg ⊢
        obtain ⟨kg, hkg⟩ : ∃ k, kk + 1 = k := ⟨_, rfl⟩
        simp only [hkg] at Vg ⊢
        replace hkg := Lib.hid hkg
        replace hkk := Lib.hid hkk
        replace hkn := Lib.hid hkn
        replace hkl := Lib.hid hkl
        have hC := iHas_any A n c (la : Int) (mm : Int) wa (by omega) hlb
        rw [hh] at hC
        refine hC.mono ?_
        clear hC
        rintro e w1 ⟨rfl, rfl⟩
        obtain ⟨k0, _⟩ := Vk.one
        obtain ⟨g0, _⟩ := Vg.one
        go_wp2_with fail
        have hC := iGen_any g wa
        rw [hgn] at hC
        refine hC.mono ?_
        clear hC
        rintro e w1 ⟨rfl, rfl⟩
        have hmay : fillMay xs (la : Int) (mm : Int) 1 g = true := fill_yes (by rw [HN.out]; exact hh) (.inr rfl) hgn
        have hfr : fillR xs (la : Int) (mm : Int) 1 g = setsF xs la (fun _ => ⟨1, g, z32⟩) mm := rfl
        have hD := iDone_any w.heap.size 34 #[.pointer (some ⟨kn, 0, none⟩), .pointer (some ⟨kk, 0, none⟩), .pointer (some ⟨kg, 0, none⟩), .pointer (some ⟨kl, 0, none⟩)] true (fun _ => True) xs (fillR xs (la : Int) (mm : Int) 1 g) A n c wa h bb.size hn (hent kn kk kg kl) (fun _ _ => by rw [hfr, setsF_len]; exact HN.out) (fun _ _ W gl c' hgl hW hnc hcb hRo => by
          have hls := Vl.lt
          have hns := Vn.lt
          have hks := Vk.lt
          have hgs := Vg.lt
          rw [hfr]
          refine (iFill1_any w.heap.size gl xs n c' kn kk kg kl mm la 1 g W hRo (by have := bb.size; omega) HN.out hnc hcb (Vn.under hW) (Vk.under hW) (Vg.under hW) (Vl.under hW) (by omega) (by omega) (by omega) (by omega) hfit hn (wf_small (by decide) (by decide)) hgw).mono ?_
          rintro e W2 ⟨rfl, r1, r2⟩
          exact ⟨rfl, r1, r2, trivial⟩)
        replace hmay := Lib.hid hmay
        replace hD := Lib.hid hD
        go_wp2_with fail
        refine hD.out.mono ?_
        rintro e w2 ⟨A2, n2, c2, hl2, rfl, R2, b2, _⟩
        go_wp2
        go_ret2
        rw [hmay.out]
        exact ⟨A2, n2, c2, hl2, rfl, R2.imp (fun z _ hz => by have := bb.size; omega), bb.trans b2⟩
  · have hkd0 : ¬ kd = 0 := fun e => hkd (.inl e)
    have hkd1 : ¬ kd = 1 := fun e => hkd (.inr e)
    have bb := Below.refl w.heap.size w
    go_enter Try.func16, Try.ntmps16
    have hs0 := Nat.le_refl w.heap.size
    replace h := h.alloc (.cells #[.int .i64 lba] 3)
    replace bb := bb.alloc bb.size (.cells #[.int .i64 lba] 3)
    have Vl := Blk.new w #[.int .i64 lba] 3
    replace h := h.alloc (.cells #[.int .i64 m] 3)
    replace Vl := Vl.alloc (.cells #[.int .i64 m] 3)
    replace bb := bb.alloc bb.size (.cells #[.int .i64 m] 3)
    have Vn := Blk.new (w.alloc (.cells #[.int .i64 lba] 3)) #[.int .i64 m] 3
    simp only [World.size_alloc] at Vn
    replace h := h.alloc (.cells #[.int .i64 kd] 3)
    replace Vl := Vl.alloc (.cells #[.int .i64 kd] 3)
    replace Vn := Vn.alloc (.cells #[.int .i64 kd] 3)
    replace bb := bb.alloc bb.size (.cells #[.int .i64 kd] 3)
    have Vk := Blk.new ((w.alloc (.cells #[.int .i64 lba] 3)).alloc (.cells #[.int .i64 m] 3)) #[.int .i64 kd] 3
    simp only [World.size_alloc] at Vk
    replace h := h.alloc (.cells #[.int .i64 g] 3)
    replace Vl := Vl.alloc (.cells #[.int .i64 g] 3)
    replace Vn := Vn.alloc (.cells #[.int .i64 g] 3)
    replace Vk := Vk.alloc (.cells #[.int .i64 g] 3)
    replace bb := bb.alloc bb.size (.cells #[.int .i64 g] 3)
    have Vg := Blk.new (((w.alloc (.cells #[.int .i64 lba] 3)).alloc (.cells #[.int .i64 m] 3)).alloc (.cells #[.int .i64 kd] 3)) #[.int .i64 g] 3
    simp only [World.size_alloc] at Vg
    go_wp2_with fail
    generalize ((((w.alloc (.cells #[.int .i64 lba] 3)).alloc (.cells #[.int .i64 m] 3)).alloc (.cells #[.int .i64 kd] 3)).alloc (.cells #[.int .i64 g] 3)) = wa at *
    obtain ⟨kl, hkl⟩ : ∃ k, w.heap.size = k := ⟨_, rfl⟩
    simp only [hkl] at Vl Vn Vk Vg ⊢
    obtain ⟨kn, hkn⟩ : ∃ k, kl + 1 = k := ⟨_, rfl⟩
    simp only [hkn] at Vn Vk Vg ⊢
    obtain ⟨kk, hkk⟩ : ∃ k, kn + 1 = k := ⟨_, rfl⟩
    simp only [hkk] at Vk Vg ⊢
    obtain ⟨kg, hkg⟩ : ∃ k, kk + 1 = k := ⟨_, rfl⟩
    simp only [hkg] at Vg ⊢
    replace hkg := Lib.hid hkg
    replace hkk := Lib.hid hkk
    replace hkn := Lib.hid hkn
    replace hkl := Lib.hid hkl
    have hC := iHas_any A n c lba m wa (by omega) hlb
    rw [hh] at hC
    refine hC.mono ?_
    clear hC
    rintro e w1 ⟨rfl, rfl⟩
    obtain ⟨k0, _⟩ := Vk.one
    obtain ⟨g0, _⟩ := Vg.one
    have hmay : fillMay xs lba m kd g = false := fill_no (.inr (.inl ⟨hkd0, hkd1⟩))
    have hD := iDone_any w.heap.size 34 #[.pointer (some ⟨kn, 0, none⟩), .pointer (some ⟨kk, 0, none⟩), .pointer (some ⟨kg, 0, none⟩), .pointer (some ⟨kl, 0, none⟩)] false (fun _ => True) xs (fillR xs lba m kd g) A n c wa h bb.size hn (hent kn kk kg kl) (fun _ hh => absurd hh (by decide)) (fun _ hh => absurd hh (by decide))
    replace hmay := Lib.hid hmay
    replace hD := Lib.hid hD
    go_wp2_with fail
    refine hD.out.mono ?_
    rintro e w2 ⟨A2, n2, c2, hl2, rfl, R2, b2, _⟩
    go_wp2
    go_ret2
    rw [hmay.out]
    exact ⟨A2, n2, c2, hl2, rfl, R2.imp (fun z _ hz => by have := bb.size; omega), bb.trans b2⟩
set_option maxHeartbeats 4000000 in
theorem iWrite_any {F : Nat → Prop} (xs : List Cp) (A : Option Addr) (n c : Nat) (lba g : Int) (Ab : Option Addr) (nb cb : Nat) (b : List UInt8) (w : World) (h : Rs cpE F w A n c xs) (hb : Sl w Ab nb cb (b.map v8)) (hn : n ≤ 1000000) (hnb : nb ≤ 100000000) (hlb : lba ≤ 9223372036854775807) :
    Calls Try.prog 17 #[.slice A n c, .int .i64 lba, .int .i64 g, .slice Ab nb cb] w (CErr w (doneL xs (wrMay xs lba g b) (wrR xs lba g b)) (doneE xs (wrMay xs lba g b))) := by
  have HN : Hid (xs.length = n) := h.len
  have HB : Hid (b.length = nb) := hb.len8
  have hent : ∀ (kn kg kb kl : Nat) (u : Value) (w : World), (callFunc 35 (#[u] ++ #[.pointer (some ⟨kn, 0, none⟩), .pointer (some ⟨kg, 0, none⟩), .pointer (some ⟨kb, 0, none⟩), .pointer (some ⟨kl, 0, none⟩)])).run Try.prog w = .ok (.enter 35 (#[u] ++ #[.pointer (some ⟨kn, 0, none⟩), .pointer (some ⟨kg, 0, none⟩), .pointer (some ⟨kb, 0, none⟩), .pointer (some ⟨kl, 0, none⟩)])) w := fun _ _ _ _ _ _ => by rfl
  obtain ⟨q, hq⟩ : ∃ q, nb / 32 = q := ⟨_, rfl⟩
  obtain ⟨r, hr⟩ : ∃ r, nb % 32 = r := ⟨_, rfl⟩
  have t1 : Int.tdiv (nb : Int) 32 = (q : Int) := by rw [Int.tdiv_eq_ediv_of_nonneg (by omega)]; omega
  have t2 : (nb : Int) / 32 = (q : Int) := by omega
  have t3 : Int.tmod (nb : Int) 32 = (r : Int) := by rw [Int.tmod_eq_emod_of_nonneg (by omega)]; omega
  have t4 : (nb : Int) % 32 = (r : Int) := by omega
  have hqb : q ≤ 100000000 := by omega
  have hq32 : Hid (32 * q + r = nb ∧ r < 32) := ⟨by omega, by omega⟩
  replace hq := Lib.hid hq
  replace hr := Lib.hid hr
  by_cases hr0 : r ≠ 0
  · have hrb : ((r : Int) == 0) = false := by simp; exact hr0
    have hri : ¬ (r : Int) = 0 := by omega
    have bb := Below.refl w.heap.size w
    go_enter Try.func17, Try.ntmps17
    replace h := h.alloc (.cells #[.int .i64 lba] 3)
    replace hb := hb.alloc (.cells #[.int .i64 lba] 3)
    replace bb := bb.alloc bb.size (.cells #[.int .i64 lba] 3)
    have Vl := Blk.new w #[.int .i64 lba] 3
    replace h := h.alloc (.cells #[.int .i64 g] 3)
    replace hb := hb.alloc (.cells #[.int .i64 g] 3)
    replace Vl := Vl.alloc (.cells #[.int .i64 g] 3)
    replace bb := bb.alloc bb.size (.cells #[.int .i64 g] 3)
    have Vg := Blk.new (w.alloc (.cells #[.int .i64 lba] 3)) #[.int .i64 g] 3
    simp only [World.size_alloc] at Vg
    replace h := h.alloc (.cells #[.slice Ab nb cb] 37)
    replace hb := hb.alloc (.cells #[.slice Ab nb cb] 37)
    replace Vl := Vl.alloc (.cells #[.slice Ab nb cb] 37)
    replace Vg := Vg.alloc (.cells #[.slice Ab nb cb] 37)
    replace bb := bb.alloc bb.size (.cells #[.slice Ab nb cb] 37)
    have Vb := Blk.new ((w.alloc (.cells #[.int .i64 lba] 3)).alloc (.cells #[.int .i64 g] 3)) #[.slice Ab nb cb] 37
    simp only [World.size_alloc] at Vb
    replace h := h.alloc (.cells #[.int .i64 (q : Int)] 3)
    replace hb := hb.alloc (.cells #[.int .i64 (q : Int)] 3)
    replace Vl := Vl.alloc (.cells #[.int .i64 (q : Int)] 3)
    replace Vg := Vg.alloc (.cells #[.int .i64 (q : Int)] 3)
    replace Vb := Vb.alloc (.cells #[.int .i64 (q : Int)] 3)
    replace bb := bb.alloc bb.size (.cells #[.int .i64 (q : Int)] 3)
    have Vn := Blk.new (((w.alloc (.cells #[.int .i64 lba] 3)).alloc (.cells #[.int .i64 g] 3)).alloc (.cells #[.slice Ab nb cb] 37)) #[.int .i64 (q : Int)] 3
    simp only [World.size_alloc] at Vn
    go_wp2_with fail
    generalize ((((w.alloc (.cells #[.int .i64 lba] 3)).alloc (.cells #[.int .i64 g] 3)).alloc (.cells #[.slice Ab nb cb] 37)).alloc (.cells #[.int .i64 (q : Int)] 3)) = wa at *
    obtain ⟨kl, hkl⟩ : ∃ k, w.heap.size = k := ⟨_, rfl⟩
    simp only [hkl] at Vl Vn Vb Vg ⊢
    obtain ⟨kg, hkg⟩ : ∃ k, kl + 1 = k := ⟨_, rfl⟩
    simp only [hkg] at Vg Vb Vn ⊢
    obtain ⟨kb, hkb⟩ : ∃ k, kg + 1 = k := ⟨_, rfl⟩
    simp only [hkb] at Vb Vn ⊢
    obtain ⟨kn, hkn⟩ : ∃ k, kb + 1 = k := ⟨_, rfl⟩
    simp only [hkn] at Vn ⊢
    replace hkg := Lib.hid hkg
    replace hkb := Lib.hid hkb
    replace hkn := Lib.hid hkn
    replace hkl := Lib.hid hkl
    have hmay : wrMay xs lba g b = false := wr_no (.inl (by rw [HB.out, hr.out]; exact hr0))
    have hD := iDone_any w.heap.size 35 #[.pointer (some ⟨kn, 0, none⟩), .pointer (some ⟨kg, 0, none⟩), .pointer (some ⟨kb, 0, none⟩), .pointer (some ⟨kl, 0, none⟩)] false (fun _ => True) xs (wrR xs lba g b) A n c wa h bb.size hn (hent kn kg kb kl) (fun _ hh => absurd hh (by decide)) (fun _ hh => absurd hh (by decide))
    replace hmay := Lib.hid hmay
    replace hD := Lib.hid hD
    refine hD.out.mono ?_
    rintro e w2 ⟨A2, n2, c2, hl2, rfl, R2, b2, _⟩
    go_wp2
    go_ret2
    rw [hmay.out]
    exact ⟨A2, n2, c2, hl2, rfl, R2.imp (fun z _ hz => by have := bb.size; omega), bb.trans b2⟩
  have hr1 : r = 0 := by omega
  subst hr1
  clear hr0
  cases hh : hasF n lba (q : Int)
  · skip
    have bb := Below.refl w.heap.size w
    go_enter Try.func17, Try.ntmps17
    replace h := h.alloc (.cells #[.int .i64 lba] 3)
    replace hb := hb.alloc (.cells #[.int .i64 lba] 3)
    replace bb := bb.alloc bb.size (.cells #[.int .i64 lba] 3)
    have Vl := Blk.new w #[.int .i64 lba] 3
    replace h := h.alloc (.cells #[.int .i64 g] 3)
    replace hb := hb.alloc (.cells #[.int .i64 g] 3)
    replace Vl := Vl.alloc (.cells #[.int .i64 g] 3)
    replace bb := bb.alloc bb.size (.cells #[.int .i64 g] 3)
    have Vg := Blk.new (w.alloc (.cells #[.int .i64 lba] 3)) #[.int .i64 g] 3
    simp only [World.size_alloc] at Vg
    replace h := h.alloc (.cells #[.slice Ab nb cb] 37)
    replace hb := hb.alloc (.cells #[.slice Ab nb cb] 37)
    replace Vl := Vl.alloc (.cells #[.slice Ab nb cb] 37)
    replace Vg := Vg.alloc (.cells #[.slice Ab nb cb] 37)
    replace bb := bb.alloc bb.size (.cells #[.slice Ab nb cb] 37)
    have Vb := Blk.new ((w.alloc (.cells #[.int .i64 lba] 3)).alloc (.cells #[.int .i64 g] 3)) #[.slice Ab nb cb] 37
    simp only [World.size_alloc] at Vb
    replace h := h.alloc (.cells #[.int .i64 (q : Int)] 3)
    replace hb := hb.alloc (.cells #[.int .i64 (q : Int)] 3)
    replace Vl := Vl.alloc (.cells #[.int .i64 (q : Int)] 3)
    replace Vg := Vg.alloc (.cells #[.int .i64 (q : Int)] 3)
    replace Vb := Vb.alloc (.cells #[.int .i64 (q : Int)] 3)
    replace bb := bb.alloc bb.size (.cells #[.int .i64 (q : Int)] 3)
    have Vn := Blk.new (((w.alloc (.cells #[.int .i64 lba] 3)).alloc (.cells #[.int .i64 g] 3)).alloc (.cells #[.slice Ab nb cb] 37)) #[.int .i64 (q : Int)] 3
    simp only [World.size_alloc] at Vn
    go_wp2_with fail
    generalize ((((w.alloc (.cells #[.int .i64 lba] 3)).alloc (.cells #[.int .i64 g] 3)).alloc (.cells #[.slice Ab nb cb] 37)).alloc (.cells #[.int .i64 (q : Int)] 3)) = wa at *
    obtain ⟨kl, hkl⟩ : ∃ k, w.heap.size = k := ⟨_, rfl⟩
    simp only [hkl] at Vl Vn Vb Vg ⊢
    obtain ⟨kg, hkg⟩ : ∃ k, kl + 1 = k := ⟨_, rfl⟩
    simp only [hkg] at Vg Vb Vn ⊢
    obtain ⟨kb, hkb⟩ : ∃ k, kg + 1 = k := ⟨_, rfl⟩
    simp only [hkb] at Vb Vn ⊢
    obtain ⟨kn, hkn⟩ : ∃ k, kb + 1 = k := ⟨_, rfl⟩
    simp only [hkn] at Vn ⊢
    replace hkg := Lib.hid hkg
    replace hkb := Lib.hid hkb
    replace hkn := Lib.hid hkn
    replace hkl := Lib.hid hkl
    have hC := iHas_any A n c lba (q : Int) wa (by omega) hlb
    rw [hh] at hC
    refine hC.mono ?_
    clear hC
    rintro e w1 ⟨rfl, rfl⟩
    obtain ⟨g0, _⟩ := Vg.one
    have hmay : wrMay xs lba g b = false := wr_no (.inr (.inl (by rw [HN.out, HB.out, hq.out]; exact hh)))
    have hD := iDone_any w.heap.size 35 #[.pointer (some ⟨kn, 0, none⟩), .pointer (some ⟨kg, 0, none⟩), .pointer (some ⟨kb, 0, none⟩), .pointer (some ⟨kl, 0, none⟩)] false (fun _ => True) xs (wrR xs lba g b) A n c wa h bb.size hn (hent kn kg kb kl) (fun _ hh => absurd hh (by decide)) (fun _ hh => absurd hh (by decide))
    replace hmay := Lib.hid hmay
    replace hD := Lib.hid hD
    go_wp2_with fail
    refine hD.out.mono ?_
    rintro e w2 ⟨A2, n2, c2, hl2, rfl, R2, b2, _⟩
    go_wp2
    go_ret2
    rw [hmay.out]
    exact ⟨A2, n2, c2, hl2, rfl, R2.imp (fun z _ hz => by have := bb.size; omega), bb.trans b2⟩
  cases hgn : genF g
  · skip
    have bb := Below.refl w.heap.size w
    go_enter Try.func17, Try.ntmps17
    replace h := h.alloc (.cells #[.int .i64 lba] 3)
    replace hb := hb.alloc (.cells #[.int .i64 lba] 3)
    replace bb := bb.alloc bb.size (.cells #[.int .i64 lba] 3)
    have Vl := Blk.new w #[.int .i64 lba] 3
    replace h := h.alloc (.cells #[.int .i64 g] 3)
    replace hb := hb.alloc (.cells #[.int .i64 g] 3)
    replace Vl := Vl.alloc (.cells #[.int .i64 g] 3)
    replace bb := bb.alloc bb.size (.cells #[.int .i64 g] 3)
    have Vg := Blk.new (w.alloc (.cells #[.int .i64 lba] 3)) #[.int .i64 g] 3
    simp only [World.size_alloc] at Vg
    replace h := h.alloc (.cells #[.slice Ab nb cb] 37)
    replace hb := hb.alloc (.cells #[.slice Ab nb cb] 37)
    replace Vl := Vl.alloc (.cells #[.slice Ab nb cb] 37)
    replace Vg := Vg.alloc (.cells #[.slice Ab nb cb] 37)
    replace bb := bb.alloc bb.size (.cells #[.slice Ab nb cb] 37)
    have Vb := Blk.new ((w.alloc (.cells #[.int .i64 lba] 3)).alloc (.cells #[.int .i64 g] 3)) #[.slice Ab nb cb] 37
    simp only [World.size_alloc] at Vb
    replace h := h.alloc (.cells #[.int .i64 (q : Int)] 3)
    replace hb := hb.alloc (.cells #[.int .i64 (q : Int)] 3)
    replace Vl := Vl.alloc (.cells #[.int .i64 (q : Int)] 3)
    replace Vg := Vg.alloc (.cells #[.int .i64 (q : Int)] 3)
    replace Vb := Vb.alloc (.cells #[.int .i64 (q : Int)] 3)
    replace bb := bb.alloc bb.size (.cells #[.int .i64 (q : Int)] 3)
    have Vn := Blk.new (((w.alloc (.cells #[.int .i64 lba] 3)).alloc (.cells #[.int .i64 g] 3)).alloc (.cells #[.slice Ab nb cb] 37)) #[.int .i64 (q : Int)] 3
    simp only [World.size_alloc] at Vn
    go_wp2_with fail
    generalize ((((w.alloc (.cells #[.int .i64 lba] 3)).alloc (.cells #[.int .i64 g] 3)).alloc (.cells #[.slice Ab nb cb] 37)).alloc (.cells #[.int .i64 (q : Int)] 3)) = wa at *
    obtain ⟨kl, hkl⟩ : ∃ k, w.heap.size = k := ⟨_, rfl⟩
    simp only [hkl] at Vl Vn Vb Vg ⊢
    obtain ⟨kg, hkg⟩ : ∃ k, kl + 1 = k := ⟨_, rfl⟩
    simp only [hkg] at Vg Vb Vn ⊢
    obtain ⟨kb, hkb⟩ : ∃ k, kg + 1 = k := ⟨_, rfl⟩
    simp only [hkb] at Vb Vn ⊢
    obtain ⟨kn, hkn⟩ : ∃ k, kb + 1 = k := ⟨_, rfl⟩
    simp only [hkn] at Vn ⊢
    replace hkg := Lib.hid hkg
    replace hkb := Lib.hid hkb
    replace hkn := Lib.hid hkn
    replace hkl := Lib.hid hkl
    have hC := iHas_any A n c lba (q : Int) wa (by omega) hlb
    rw [hh] at hC
    refine hC.mono ?_
    clear hC
    rintro e w1 ⟨rfl, rfl⟩
    obtain ⟨g0, _⟩ := Vg.one
    go_wp2_with fail
    have hC := iGen_any g wa
    rw [hgn] at hC
    refine hC.mono ?_
    clear hC
    rintro e w1 ⟨rfl, rfl⟩
    have hmay : wrMay xs lba g b = false := wr_no (.inr (.inr hgn))
    have hD := iDone_any w.heap.size 35 #[.pointer (some ⟨kn, 0, none⟩), .pointer (some ⟨kg, 0, none⟩), .pointer (some ⟨kb, 0, none⟩), .pointer (some ⟨kl, 0, none⟩)] false (fun _ => True) xs (wrR xs lba g b) A n c wa h bb.size hn (hent kn kg kb kl) (fun _ hh => absurd hh (by decide)) (fun _ hh => absurd hh (by decide))
    replace hmay := Lib.hid hmay
    replace hD := Lib.hid hD
    go_wp2_with fail
    refine hD.out.mono ?_
    rintro e w2 ⟨A2, n2, c2, hl2, rfl, R2, b2, _⟩
    go_wp2
    go_ret2
    rw [hmay.out]
    exact ⟨A2, n2, c2, hl2, rfl, R2.imp (fun z _ hz => by have := bb.size; omega), bb.trans b2⟩
  have bb := Below.refl w.heap.size w
  go_enter Try.func17, Try.ntmps17
  replace h := h.alloc (.cells #[.int .i64 lba] 3)
  replace hb := hb.alloc (.cells #[.int .i64 lba] 3)
  replace bb := bb.alloc bb.size (.cells #[.int .i64 lba] 3)
  have Vl := Blk.new w #[.int .i64 lba] 3
  replace h := h.alloc (.cells #[.int .i64 g] 3)
  replace hb := hb.alloc (.cells #[.int .i64 g] 3)
  replace Vl := Vl.alloc (.cells #[.int .i64 g] 3)
  replace bb := bb.alloc bb.size (.cells #[.int .i64 g] 3)
  have Vg := Blk.new (w.alloc (.cells #[.int .i64 lba] 3)) #[.int .i64 g] 3
  simp only [World.size_alloc] at Vg
  replace h := h.alloc (.cells #[.slice Ab nb cb] 37)
  replace hb := hb.alloc (.cells #[.slice Ab nb cb] 37)
  replace Vl := Vl.alloc (.cells #[.slice Ab nb cb] 37)
  replace Vg := Vg.alloc (.cells #[.slice Ab nb cb] 37)
  replace bb := bb.alloc bb.size (.cells #[.slice Ab nb cb] 37)
  have Vb := Blk.new ((w.alloc (.cells #[.int .i64 lba] 3)).alloc (.cells #[.int .i64 g] 3)) #[.slice Ab nb cb] 37
  simp only [World.size_alloc] at Vb
  replace h := h.alloc (.cells #[.int .i64 (q : Int)] 3)
  replace hb := hb.alloc (.cells #[.int .i64 (q : Int)] 3)
  replace Vl := Vl.alloc (.cells #[.int .i64 (q : Int)] 3)
  replace Vg := Vg.alloc (.cells #[.int .i64 (q : Int)] 3)
  replace Vb := Vb.alloc (.cells #[.int .i64 (q : Int)] 3)
  replace bb := bb.alloc bb.size (.cells #[.int .i64 (q : Int)] 3)
  have Vn := Blk.new (((w.alloc (.cells #[.int .i64 lba] 3)).alloc (.cells #[.int .i64 g] 3)).alloc (.cells #[.slice Ab nb cb] 37)) #[.int .i64 (q : Int)] 3
  simp only [World.size_alloc] at Vn
  go_wp2_with fail
  generalize ((((w.alloc (.cells #[.int .i64 lba] 3)).alloc (.cells #[.int .i64 g] 3)).alloc (.cells #[.slice Ab nb cb] 37)).alloc (.cells #[.int .i64 (q : Int)] 3)) = wa at *
  obtain ⟨kl, hkl⟩ : ∃ k, w.heap.size = k := ⟨_, rfl⟩
  simp only [hkl] at Vl Vn Vb Vg ⊢
  obtain ⟨kg, hkg⟩ : ∃ k, kl + 1 = k := ⟨_, rfl⟩
  simp only [hkg] at Vg Vb Vn ⊢
  obtain ⟨kb, hkb⟩ : ∃ k, kg + 1 = k := ⟨_, rfl⟩
  simp only [hkb] at Vb Vn ⊢
  obtain ⟨kn, hkn⟩ : ∃ k, kb + 1 = k := ⟨_, rfl⟩
  simp only [hkn] at Vn ⊢
  replace hkg := Lib.hid hkg
  replace hkb := Lib.hid hkb
  replace hkn := Lib.hid hkn
  replace hkl := Lib.hid hkl
  have hC := iHas_any A n c lba (q : Int) wa (by omega) hlb
  rw [hh] at hC
  refine hC.mono ?_
  clear hC
  rintro e w1 ⟨rfl, rfl⟩
  obtain ⟨g0, _⟩ := Vg.one
  go_wp2_with fail
  have hC := iGen_any g wa
  rw [hgn] at hC
  refine hC.mono ?_
  clear hC
  rintro e w1 ⟨rfl, rfl⟩
  have hmay : wrMay xs lba g b = true := wr_yes (by rw [HB.out, hr.out]) (by rw [HN.out, HB.out, hq.out]; exact hh) hgn
  have hgw := gen_wf hgn
  obtain ⟨la, mm, hla, hmm, hm1, hfit⟩ := has_nat hh
  obtain rfl : q = mm := by omega
  have hfr : wrR xs lba g b = setsF xs la (cellB g b) q := by unfold wrR; rw [HB.out, hq.out, hla]; rfl
  have hD := iDone_any w.heap.size 35 #[.pointer (some ⟨kn, 0, none⟩), .pointer (some ⟨kg, 0, none⟩), .pointer (some ⟨kb, 0, none⟩), .pointer (some ⟨kl, 0, none⟩)] true (fun _ => True) xs (wrR xs lba g b) A n c wa h bb.size hn (hent kn kg kb kl) (fun _ _ => by rw [hfr, setsF_len]; exact HN.out) (fun _ _ W gl c' hgl hW hnc hcb hRo => by
    have hls := Vl.lt
    have hns := Vn.lt
    have hbs := Vb.lt
    have hgs := Vg.lt
    rw [hfr]
    rw [hla] at Vl
    by_cases hq0 : 0 < nb
    · obtain ⟨ad, hae, hal, _⟩ := hb.cells hq0
      refine (iWrite1_any w.heap.size gl xs n c' kn kg kb kl q la g Ab nb cb b W hRo (by have := bb.size; omega) HN.out hnc hcb (Vn.under hW) (Vg.under hW) (Vb.under hW) (Vl.under hW) (by omega) (by omega) (by omega) (by omega) (hb.below hW) (fun ad' e => by rw [hae] at e; cases e; omega) hnb (by have := hq32.out; omega) hfit hn hgw).mono ?_
      rintro e W2 ⟨rfl, r1, r2⟩
      exact ⟨rfl, r1, r2, trivial⟩
    · exfalso; have := hq32.out; omega)
  clear hfr hla hmm
  replace hmay := Lib.hid hmay
  replace hD := Lib.hid hD
  go_wp2_with fail
  refine hD.out.mono ?_
  rintro e w2 ⟨A2, n2, c2, hl2, rfl, R2, b2, _⟩
  go_wp2
  go_ret2
  rw [hmay.out]
  exact ⟨A2, n2, c2, hl2, rfl, R2.imp (fun z _ hz => by have := bb.size; omega), bb.trans b2⟩
/-- Bytes in memory of their own, and a number. -/
def BErr (w : World) (ys : List UInt8) (er : Int) (e : Ending) (w' : World) : Prop := ∃ A n c, Hid (ys.length = n) ∧ e = .returned (.tuple #[.slice A n c, .int .i64 er]) ∧ Sl w' A n c (ys.map v8) ∧ (∀ ad, A = some ad → w.heap.size ≤ ad.block) ∧ Below w.heap.size w w'
theorem rdR_no {l : List Cp} {lba n : Int} (h : ichk l = false ∨ hasF l.length lba n = false) : rdR l lba n = [] := by
  unfold rdR
  rw [if_neg (fun hh => h.elim (fun h => absurd (h.symm.trans hh.1) (by decide)) (fun h => absurd (h.symm.trans hh.2) (by decide)))]
theorem rdR_yes {l : List Cp} {lba n : Int} (h : ichk l = true) (h2 : hasF l.length lba n = true) : rdR l lba n = flatB l lba.toNat n.toNat := by
  unfold rdR
  rw [if_pos ⟨h, h2⟩]
set_option maxHeartbeats 4000000 in
theorem iRead_any {F : Nat → Prop} (xs : List Cp) (A : Option Addr) (n c : Nat) (lba m : Int) (w : World) (h : Rs cpE F w A n c xs) (hn : n ≤ 1000000) (hlb : lba ≤ 9223372036854775807) :
    Calls Try.prog 18 #[.slice A n c, .int .i64 lba, .int .i64 m] w (BErr w (rdR xs lba m) (doneE xs (hasF xs.length lba m))) := by
  have HN : Hid (xs.length = n) := h.len
  have hwf : ∀ x ∈ xs, x.d.length = 32 := fun x hx => (h.wfs x hx).len
  have hent : ∀ (kn kb kl : Nat) (u : Value) (w : World), (callFunc 36 (#[u] ++ #[.pointer (some ⟨kn, 0, none⟩), .pointer (some ⟨kb, 0, none⟩), .pointer (some ⟨kl, 0, none⟩)])).run Try.prog w = .ok (.enter 36 (#[u] ++ #[.pointer (some ⟨kn, 0, none⟩), .pointer (some ⟨kb, 0, none⟩), .pointer (some ⟨kl, 0, none⟩)])) w := fun _ _ _ _ _ => by rfl
  rw [show hasF xs.length lba m = hasF n lba m by rw [HN.out]]
  cases hh : hasF n lba m
  · skip
    have bb := Below.refl w.heap.size w
    go_enter Try.func18, Try.ntmps18
    replace h := h.alloc (.cells #[.int .i64 lba] 3)
    replace bb := bb.alloc bb.size (.cells #[.int .i64 lba] 3)
    have Vl := Blk.new w #[.int .i64 lba] 3
    replace h := h.alloc (.cells #[.int .i64 m] 3)
    replace Vl := Vl.alloc (.cells #[.int .i64 m] 3)
    replace bb := bb.alloc bb.size (.cells #[.int .i64 m] 3)
    have Vn := Blk.new (w.alloc (.cells #[.int .i64 lba] 3)) #[.int .i64 m] 3
    simp only [World.size_alloc] at Vn
    replace h := h.alloc (.cells #[.slice none 0 0] 37)
    replace Vl := Vl.alloc (.cells #[.slice none 0 0] 37)
    replace Vn := Vn.alloc (.cells #[.slice none 0 0] 37)
    replace bb := bb.alloc bb.size (.cells #[.slice none 0 0] 37)
    have Vb := Blk.new ((w.alloc (.cells #[.int .i64 lba] 3)).alloc (.cells #[.int .i64 m] 3)) #[.slice none 0 0] 37
    simp only [World.size_alloc] at Vb
    go_wp2_with fail
    generalize (((w.alloc (.cells #[.int .i64 lba] 3)).alloc (.cells #[.int .i64 m] 3)).alloc (.cells #[.slice none 0 0] 37)) = wa at *
    obtain ⟨kl, hkl⟩ : ∃ k, w.heap.size = k := ⟨_, rfl⟩
    simp only [hkl] at Vl Vn Vb ⊢
    obtain ⟨kn, hkn⟩ : ∃ k, kl + 1 = k := ⟨_, rfl⟩
    simp only [hkn] at Vn Vb ⊢
    obtain ⟨kb, hkb⟩ : ∃ k, kn + 1 = k := ⟨_, rfl⟩
    simp only [hkb] at Vb ⊢
    replace hkb := Lib.hid hkb
    replace hkn := Lib.hid hkn
    replace hkl := Lib.hid hkl
    have hC := iHas_any A n c lba m wa (by omega) hlb
    rw [hh] at hC
    refine hC.mono ?_
    clear hC
    rintro e w1 ⟨rfl, rfl⟩
    have hD := iDone_any wa.heap.size 36 #[.pointer (some ⟨kn, 0, none⟩), .pointer (some ⟨kb, 0, none⟩), .pointer (some ⟨kl, 0, none⟩)] false (fun _ => True) xs xs A n c wa h (Nat.le_refl _) hn (hent kn kb kl) (fun _ hh => absurd hh (by decide)) (fun _ hh => absurd hh (by decide))
    replace hD := Lib.hid hD
    have hno := Lib.hid (rdR_no (l := xs) (lba := lba) (n := m) (.inr (by rw [HN.out]; exact hh)))
    go_wp2_with fail
    refine hD.out.mono ?_
    rintro e w2 ⟨A2, n2, c2, hl2, rfl, R2, b2, _⟩
    obtain ⟨v0, _⟩ := (Vb.under b2).one
    go_wp2
    go_ret2
    rw [hno.out]
    exact ⟨none, 0, 0, rfl, rfl, Sl.nil _, fun ad e => (by cases e), bb.trans (b2.mono bb.size)⟩
  obtain ⟨la, mm, rfl, rfl, hm1, hfit⟩ := has_nat hh
  have bb := Below.refl w.heap.size w
  go_enter Try.func18, Try.ntmps18
  replace h := h.alloc (.cells #[.int .i64 (la : Int)] 3)
  replace bb := bb.alloc bb.size (.cells #[.int .i64 (la : Int)] 3)
  have Vl := Blk.new w #[.int .i64 (la : Int)] 3
  replace h := h.alloc (.cells #[.int .i64 (mm : Int)] 3)
  replace Vl := Vl.alloc (.cells #[.int .i64 (mm : Int)] 3)
  replace bb := bb.alloc bb.size (.cells #[.int .i64 (mm : Int)] 3)
  have Vn := Blk.new (w.alloc (.cells #[.int .i64 (la : Int)] 3)) #[.int .i64 (mm : Int)] 3
  simp only [World.size_alloc] at Vn
  replace h := h.alloc (.cells #[.slice none 0 0] 37)
  replace Vl := Vl.alloc (.cells #[.slice none 0 0] 37)
  replace Vn := Vn.alloc (.cells #[.slice none 0 0] 37)
  replace bb := bb.alloc bb.size (.cells #[.slice none 0 0] 37)
  have Vb := Blk.new ((w.alloc (.cells #[.int .i64 (la : Int)] 3)).alloc (.cells #[.int .i64 (mm : Int)] 3)) #[.slice none 0 0] 37
  simp only [World.size_alloc] at Vb
  go_wp2_with fail
  generalize (((w.alloc (.cells #[.int .i64 (la : Int)] 3)).alloc (.cells #[.int .i64 (mm : Int)] 3)).alloc (.cells #[.slice none 0 0] 37)) = wa at *
  obtain ⟨kl, hkl⟩ : ∃ k, w.heap.size = k := ⟨_, rfl⟩
  simp only [hkl] at Vl Vn Vb ⊢
  obtain ⟨kn, hkn⟩ : ∃ k, kl + 1 = k := ⟨_, rfl⟩
  simp only [hkn] at Vn Vb ⊢
  obtain ⟨kb, hkb⟩ : ∃ k, kn + 1 = k := ⟨_, rfl⟩
  simp only [hkb] at Vb ⊢
  replace hkb := Lib.hid hkb
  replace hkn := Lib.hid hkn
  replace hkl := Lib.hid hkl
  have hC := iHas_any A n c (la : Int) (mm : Int) wa (by omega) hlb
  rw [hh] at hC
  refine hC.mono ?_
  clear hC
  rintro e w1 ⟨rfl, rfl⟩
  have hD := iDone_any kb 36 #[.pointer (some ⟨kn, 0, none⟩), .pointer (some ⟨kb, 0, none⟩), .pointer (some ⟨kl, 0, none⟩)] true (fun W => ∃ gr M, Hid (M = 32 * mm) ∧ kb ≤ gr ∧ Blk W kb #[.slice (some ⟨gr, 0, none⟩) M M] 37 ∧ Sl W (some ⟨gr, 0, none⟩) M M ((flatB xs la mm).map v8)) xs xs A n c wa h (Nat.le_of_lt Vb.lt) hn (hent kn kb kl) (fun _ _ => HN.out) (fun _ _ W gl c' hgl hW hnc hcb hRo => by
    have hls := Vl.lt
    have hns := Vn.lt
    have hbs := Vb.lt
    have q1 := hkn.out
    have q2 := hkb.out
    refine (iRead1_any kb gl xs n c' kn kb kl mm la _ W hRo (by omega) (Nat.le_refl _) HN.out hnc hcb (Vn.under hW) (Vb.under hW) (Vl.under hW) (by omega) (by omega) (by omega) hm1 hfit hn hwf).mono ?_
    rintro e W2 ⟨rfl, gr, M, r1, r2, r3, r4, r5, r6⟩
    exact ⟨rfl, r5, r6, gr, M, r1, r2, r3, r4⟩)
  replace hD := Lib.hid hD
  cases hi : ichk xs
  · have hno := Lib.hid (rdR_no (l := xs) (lba := (la : Int)) (n := (mm : Int)) (.inl hi))
    have hE : doneE xs true = 90 := by unfold doneE; rw [hi]; rfl
    have hD2 := iDone_any wa.heap.size 36 #[.pointer (some ⟨kn, 0, none⟩), .pointer (some ⟨kb, 0, none⟩), .pointer (some ⟨kl, 0, none⟩)] true (fun _ => True) xs xs A n c wa h (Nat.le_refl _) hn (hent kn kb kl) (fun hh _ => absurd (hi.symm.trans hh) (by decide)) (fun hh _ => absurd (hi.symm.trans hh) (by decide))
    rw [hE] at hD2
    rw [hE]
    replace hD2 := Lib.hid hD2
    clear hD
    go_wp2_with fail
    refine hD2.out.mono ?_
    rintro e w2 ⟨A2, n2, c2, hl2, rfl, R2, b2, _⟩
    obtain ⟨v0, _⟩ := (Vb.under b2).one
    go_wp2
    go_ret2
    rw [hno.out]
    try rw [hE]
    try simp only [hh, hE]
    exact ⟨none, 0, 0, rfl, rfl, Sl.nil _, fun ad e => (by cases e), bb.trans (b2.mono bb.size)⟩
  · have hyes := Lib.hid (rdR_yes (l := xs) (lba := (la : Int)) (n := (mm : Int)) hi (by rw [HN.out]; exact hh))
    have hE : doneE xs true = 0 := by unfold doneE; rw [hi]; rfl
    have hD2 := hD.out
    rw [hE] at hD2
    rw [hE]
    replace hD2 := Lib.hid hD2
    clear hD
    go_wp2_with fail
    refine hD2.out.mono ?_
    rintro e w2 ⟨A2, n2, c2, hl2, rfl, R2, b2, hR⟩
    obtain ⟨gr, M, hM, hgr, Vb2, SM⟩ := hR rfl
    obtain ⟨v0, _⟩ := Vb2.one
    have hkw : w.heap.size ≤ kb := by have := hkl.out; have := hkn.out; have := hkb.out; omega
    clear hR
    go_wp2
    go_ret2
    rw [hyes.out]
    try rw [hE]
    try simp only [hh, hE]
    exact ⟨some ⟨gr, 0, none⟩, M, M, SM.len8, rfl, SM, fun ad e => (by cases e; show w.heap.size ≤ gr; omega), bb.trans (b2.mono hkw)⟩
end Go.Proofs.Ytagageidiebogaa

/-
  Contract of image.Of (written by gen_im7.py).
-/
namespace Go.Wag
open Go.RowKit
set_option linter.unusedVariables false
/-- The blocks of an extent, and of extents one behind the other. -/
def xcells (x : Xp) : List Cp := (List.range x.n.toNat).map fun i => ⟨x.k, x.g, chunk (xby x) i⟩
def iof (l : List Xp) : List Cp := (l.map xcells).flatten
theorem xcells_len (x : Xp) : (xcells x).length = x.n.toNat := by simp [xcells]
theorem iof_snoc (l : List Xp) (x : Xp) : iof (l ++ [x]) = iof l ++ xcells x := by simp [iof]
theorem iof_len : ∀ {l : List Xp} {e f : Int}, mrun e l f → e + ((iof l).length : Int) = f
  | [], e, f, h => by
    cases h
    simp [iof]
  | x :: l, e, f, h => by
    obtain ⟨h1, h2, h3⟩ := h
    have hx := Xp.all h1
    have ih := iof_len h3
    have : (iof (x :: l)).length = (xcells x).length + (iof l).length := by simp [iof]
    rw [xcells_len] at this
    omega
theorem iof_at {l : List Xp} {f : Int} (h : mrun 0 l f) {k : Nat} {x : Xp} (hx : l[k]? = some x) : x.la = ((iof (l.take k)).length : Int) := by
  have e : l.take k ++ x :: l.drop (k + 1) = l := by
    obtain ⟨hk, rfl⟩ := List.getElem?_eq_some_iff.1 hx
    rw [List.getElem_cons_drop]
    exact List.take_append_drop k l
  rw [← e] at h
  obtain ⟨g, h1, h2⟩ := mrun_split h
  have := iof_len h1
  have h3 : x.la = g := h2.2.1
  omega
def ofJ (D : List Cp) (x : Xp) (b i : Nat) : List Cp := D ++ (xcells x).take i ++ List.replicate (b - (D.length + i)) c0p
theorem ofJ_len {D : List Cp} {x : Xp} {b i : Nat} (hi : i ≤ (xcells x).length) (hb : D.length + i ≤ b) : (ofJ D x b i).length = b := by
  simp only [ofJ, List.length_append, List.length_take, List.length_replicate]
  omega
theorem ofJ_zero (D : List Cp) (x : Xp) (b : Nat) : ofJ D x b 0 = D ++ List.replicate (b - D.length) c0p := by simp [ofJ]
theorem ofJ_end {D : List Cp} {x : Xp} {b : Nat} : ofJ D x b (xcells x).length = (D ++ xcells x) ++ List.replicate (b - (D ++ xcells x).length) c0p := by
  rw [ofJ, List.take_length, List.length_append]
theorem ofJ_set {D : List Cp} {x : Xp} {b i : Nat} {y : Cp} (hy : (xcells x)[i]? = some y) (hb : D.length + i < b) : (ofJ D x b i).set (D.length + i) y = ofJ D x b (i + 1) := by
  have hi := (List.getElem?_eq_some_iff.1 hy).1
  have hl : (D ++ (xcells x).take i).length = D.length + i := by
    rw [List.length_append, List.length_take]
    omega
  rw [ofJ, List.set_append_right _ _ (by omega), hl, Nat.sub_self, show b - (D.length + i) = (b - (D.length + (i + 1))) + 1 by omega, List.replicate_succ, List.set_cons_zero, ofJ, take_one hy]
  simp
theorem xcells_at {x : Xp} {i : Nat} (hi : i < x.n.toNat) : (xcells x)[i]? = some ⟨x.k, x.g, chunk (xby x) i⟩ := by
  rw [xcells, List.getElem?_map, List.getElem?_range hi]
  rfl
theorem xbytes_ok {x : Xp} (h : x.ok = true) : xbytes x = xby x := by
  unfold xbytes
  rw [if_pos h]
end Go.Wag
namespace Go.Proofs.Ytagageidiebogaa
open Go.RowKit Go.Wag
set_option linter.unusedVariables false
set_option linter.unusedSimpArgs false
set_option maxRecDepth 20000
theorem run_mkC (n : Nat) (hn : n ≤ 1000) (w : World) :
    (Instr.makeSlice 22 (.int .i64 (n : Int)) (.int .i64 (n : Int))).run Try.prog w = .ok (.slice (some ⟨w.heap.size, 0, none⟩) n n) (w.alloc (.cells (madeCells (cpA c0p) (n * 34)) 46)) := by
  obtain ⟨i0, hi, hz0, hz1, hz2⟩ := iCp
  have hr := run_make (P := Try.prog) w 22 46 i0 _ Try.underlying22 hi hz0 .i64 .i64 (n : Int) (n : Int) (by omega) (by omega) (by rw [hz2]; omega) (by omega)
  simp only [Int.toNat_natCast, hz1] at hr
  exact hr
theorem mkC_ro (n : Nat) (w : World) : Ro cpE (fun _ => True) 46 (w.alloc (.cells (madeCells (cpA c0p) (n * 34)) 46)) w.heap.size (List.replicate n c0p) := by
  refine ⟨⟨_, ?_, Blk.new w _ _⟩, fun i x hi => ?_⟩
  · rw [List.length_replicate, size_madeCells]
    exact Nat.le_refl _
  · obtain ⟨hl, hx⟩ := List.getElem?_eq_some_iff.1 hi
    rw [List.length_replicate] at hl
    rw [List.getElem_replicate] at hx
    subst hx
    refine ⟨cpV c0p, ⟨rfl, c0p_wf⟩, fun j v hj => ?_⟩
    have hj34 : j < 34 := (List.getElem?_eq_some_iff.1 hj).1
    have e34 : cpE.k = 34 := rfl
    rw [(Blk.new w _ _).cell, e34]
    have hlt : i * 34 + j < n * 34 := by
      have : (i + 1) * 34 ≤ n * 34 := Nat.mul_le_mul_right _ hl
      omega
    have hs : (cpA c0p).size = 34 := rfl
    have hm : (i * 34 + j) % 34 = j := by omega
    unfold madeCells
    rw [Array.getElem?_map, Array.getElem?_range, if_pos hlt, Option.map_some, hs, hm, ← hj]
    show some ((cpA c0p)[j]!) = (cpV c0p)[j]?
    rw [getElem!_pos (cpA c0p) j (by rw [hs]; exact hj34), List.getElem?_eq_getElem hj34]
    rfl
set_option maxHeartbeats 8000000 in
theorem iOf_any {F : Nat → Prop} (b : Int) (xs : List Xp) (A : Option Addr) (n c : Nat) (w : World) (h : Rs extE F w A n c xs) (hla : ∀ x ∈ xs, x.la ≤ 9223372036854775807) (hn : n ≤ 1000000) :
    Calls Try.prog 6 #[.int .i64 b, .slice A n c] w (CErr w (if mapB b xs = true then iof xs else []) (if mapB b xs = true then 0 else 80)) := by
  have HN : Hid (xs.length = n) := h.len
  have hcap := h.cap
  have hbig := h.big
  have hC := mCheck_any b xs A n c w h hla (by omega)
  cases hm : mapB b xs
  · rw [hm] at hC
    rw [if_neg (by simp), if_neg (by simp)]
    go_enter Try.func6, Try.ntmps6
    go_wp2_with fail
    refine hC.mono ?_
    rintro e w2 ⟨rfl, b2⟩
    go_wp2
    go_ret2
    exact CErr.nil _ b2
  rw [hm] at hC
  rw [if_pos rfl, if_pos rfl]
  obtain ⟨hb1, hb64, hrun, _⟩ := (mapB_iff _ _).1 hm
  obtain ⟨bn, rfl⟩ : ∃ k : Nat, b = (k : Int) := ⟨b.toNat, by omega⟩
  have hlen := iof_len hrun
  have hok := mrun_ok hrun
  have hmk := run_mkC bn (by omega)
  have hbn : bn ≤ 64 := by omega
  go_enter Try.func6, Try.ntmps6
  go_wp2_with fail
  refine hC.mono ?_
  clear hC
  rintro e w2 ⟨rfl, b2⟩
  have hR0 := mkC_ro bn w2
  have bb := b2.alloc b2.size (.cells (madeCells (cpA c0p) (bn * 34)) 46)
  have hs2 := b2.size
  go_upto_region 4 with (fail)
  clear hmk
  generalize w2.alloc (.cells (madeCells (cpA c0p) (bn * 34)) 46) = w3 at *
  obtain ⟨go, hgo⟩ : ∃ k, w2.heap.size = k := ⟨_, rfl⟩
  try simp only [hgo] at hR0 ⊢
  have hgw : w.heap.size ≤ go := by omega
  clear b2 hs2 hgo
  replace hlen := Lib.hid hlen
  replace hrun := Lib.hid hrun
  replace hok := Lib.hid hok
  replace hm := Lib.hid hm
  have hR1 : Ro cpE (fun _ => True) 46 w3 go (iof (xs.take 0) ++ List.replicate (bn - (iof (xs.take 0)).length) c0p) := by simpa [iof] using hR0
  clear hR0
  go_wp2_with fail
  go_loopg [19] n (fun q i wr => ∃ k : Nat, k + q = n ∧ i = .int .i64 (k : Int) ∧ Ro cpE (fun _ => True) 46 wr go (iof (xs.take k) ++ List.replicate (bn - (iof (xs.take k)).length) c0p) ∧ Below w.heap.size w wr)
  case atStart => exact ⟨0, by omega, rfl, hR1, bb⟩
  case round =>
    clear hR1 bb
    obtain ⟨k, hk, rfl, R, bb⟩ := hrel
    by_cases hlt : (k : Int) < (n : Int)
    · obtain ⟨q, rfl⟩ : ∃ q, gk = q + 1 := ⟨gk - 1, by omega⟩
      obtain ⟨gb, o, x, Ai, ci, rfl, _, hg, hz, d0, d1, d2, d3, d4, hS, _⟩ := h.ext_at (show k < n by omega)
      obtain ⟨mi, hmx⟩ : ∃ m, x.l.length = m := ⟨_, rfl⟩
      rw [hmx] at d4 hS
      have hxo := hok.out x (List.mem_iff_getElem?.2 ⟨k, hz⟩)
      have hxa := Xp.all hxo
      have hat := iof_at hrun.out hz
      have htk := take_one hz
      obtain ⟨D, hD⟩ : ∃ D, iof (xs.take k) = D := ⟨_, rfl⟩
      rw [hD] at R hat
      have hDn : iof (xs.take (k + 1)) = D ++ xcells x := by rw [htk, iof_snoc, hD]
      obtain ⟨e, he⟩ : ∃ e, D.length = e := ⟨_, rfl⟩
      obtain ⟨ln, hln⟩ : ∃ m : Nat, x.n = (m : Int) := ⟨x.n.toNat, by omega⟩
      rw [he] at hat
      have hx64 := hla x (List.mem_iff_getElem?.2 ⟨k, hz⟩)
      have heb : e + ln ≤ bn := by
        have := (mrun_in hrun.out x (List.mem_iff_getElem?.2 ⟨k, hz⟩)).2
        omega
      have y0 := (bb.cell hg).trans d0
      have y1 := (bb.cell hg).trans d1
      have y2 := (bb.cell hg).trans d2
      have y3 := (bb.cell hg).trans d3
      have y4 := (bb.cell hg).trans d4
      have hxl := xby_length hxo
      have hkw : (Lit.int .i64 x.k).wf = true := wf_small (by omega) (by omega)
      have hgww : (Lit.int .i64 x.g).wf = true := wf_small (by omega) (by omega)
      rw [hat] at y0 hx64
      rw [hln] at y1 hxl
      have hxc : (xcells x).length = ln := by rw [xcells_len, hln]; rfl
      have hby := fun W (hs : Sl W Ai mi ci (x.l.map v8)) => eBytes_any (e : Int) (ln : Int) x.k x.g Ai mi ci x.l W hx64 hs
      rw [show (⟨(e : Int), (ln : Int), x.k, x.g, x.l⟩ : Xp) = x by rw [← hat, ← hln], xbytes_ok hxo] at hby
      rw [← ofJ_zero D x bn] at R
      have XC := Blk.new wr #[.int .i64 (e : Int), .int .i64 (ln : Int), .int .i64 x.k, .int .i64 x.g, .slice Ai mi ci] 41
      have a1 := (Below.refl wr.heap.size wr).alloc (Nat.le_refl _) (.cells #[.int .i64 (e : Int), .int .i64 (ln : Int), .int .i64 x.k, .int .i64 x.g, .slice Ai mi ci] 41)
      have hS1 := (hS.below bb).below a1
      have R1 := Ro.under R a1
      have bb1 := bb.trans (a1.mono bb.size)
      have hgol := R.lt
      clear hxa R d0 d1 d2 d3 d4 bb
      replace hat := Lib.hid hat
      replace hln := Lib.hid hln
      replace he := Lib.hid he
      replace hD := Lib.hid hD
      replace hDn := Lib.hid hDn
      replace hxc := Lib.hid hxc
      replace hxl := Lib.hid hxl
      go_wp2_with fail
      refine (hby _ hS1).mono ?_
      clear hby y0 y1 y2 y3 y4
      generalize wr.alloc (.cells #[.int .i64 (e : Int), .int .i64 (ln : Int), .int .i64 x.k, .int .i64 x.g, .slice Ai mi ci] 41) = w4 at *
      obtain ⟨kx, hkx⟩ : ∃ k, wr.heap.size = k := ⟨_, rfl⟩
      rw [hkx] at XC
      try simp only [hkx]
      rintro e5 w5 ⟨A5, n5, c5, rfl, N5, b5⟩
      have S5 := Sl.of_own N5
      have h5l := S5.len8
      have hfr5 := N5.fr
      have hkgo : go < kx := by omega
      have hx4 := XC.lt
      replace XC := XC.under b5
      replace R1 := R1.under b5
      replace bb1 := bb1.trans (b5.mono bb1.size)
      have h5n : n5 = 32 * ln := by have := hxl.out; omega
      have h5cap := S5.cap
      replace h5n := Lib.hid h5n
      have h5b : n5 ≤ 2048 := by have := h5n.out; omega
      have h5big := S5.big
      replace h5l := Lib.hid h5l
      obtain ⟨x0', x1', x2', x3', x4', _⟩ := XC.five
      clear N5 b5 hS1
      go_wp2_with fail
      clear x0' x1' x2' x3' x4'
      go_loopg [27] ln (fun q2 i w6 => ∃ j : Nat, j + q2 = ln ∧ i = .int .i64 (j : Int) ∧ Ro cpE (fun _ => True) 46 w6 go (ofJ D x bn j) ∧ But go w5 w6 ∧ Below w.heap.size w w6)
      case atStart => exact ⟨0, by omega, rfl, R1, But.refl _ _, bb1⟩
      case round =>
        clear R1 bb1
        obtain ⟨j, hj, rfl, R, bt, bb⟩ := hrel
        have V := XC.but bt (by omega)
        obtain ⟨x0', x1', x2', x3', x4', _⟩ := V.five
        by_cases hjl : (j : Int) < (ln : Int)
        · obtain ⟨q2, rfl⟩ : ∃ q, gk = q + 1 := ⟨gk - 1, by omega⟩
          have hSj := (S5.but bt (fun _ ad ea => by have := hfr5 ad ea; omega)).from_ (k := 32 * j) (by have := h5n.out; omega)
          rw [← List.map_drop] at hSj
          have hcut := fun W => run_cut (P := Try.prog) 37 5 un22 el22 sz5 A5 n5 c5 .i64 ((j : Int) * 32) (32 * j) (by omega) (by have := h5n.out; omega) W
          have hc5 : (j : Int) * 32 ≤ (n5 : Int) := by have := h5n.out; omega
          have hC := fun W hh => iCell_any x.k x.g (cutA A5 c5 (32 * j)) (n5 - 32 * j) (c5 - 32 * j) ((xby x).drop (32 * j)) W hh hkw hgww
          rw [cellD_chunk (show 32 * (j + 1) ≤ (xby x).length by have := hxl.out; omega)] at hC
          have hzl : (chunk (xby x) j).length = 32 := chunk_len (by have := hxl.out; omega)
          have hset := ofJ_set (D := D) (b := bn) (xcells_at (x := x) (i := j) (by have := hln.out; omega)) (by have := he.out; omega)
          have hol : (ofJ D x bn j).length = bn := ofJ_len (by have := hxc.out; omega) (by have := he.out; omega)
          generalize cutA A5 c5 (32 * j) = A6 at *
          obtain ⟨p, hp⟩ : ∃ p, e + j = p := ⟨_, rfl⟩
          have hjp : p < bn := by omega
          have hpb : p ≤ 1000000 := by omega
          rw [he.out, hp] at hset
          replace hp := Lib.hid hp
          replace hset := Lib.hid hset
          replace hol := Lib.hid hol
          have hjb : j ≤ 64 := by omega
          have hVl := V.lt
          go_wp2_with fail
          refine wp_region_held_drew (S := fun w' => But go wr w') (by kernel_rfl) (But.refl _ _).drew (fun hHeld => ?_)
          try dsimp only at hHeld
          have Rd := R.drew
          replace hSj := hSj.drew
          have hsB := bb.size
          have bb6 := bb.trans ((Below.refl wr.heap.size wr).drew.mono hsB)
          have hs6 : w.heap.size ≤ wr.drew.heap.size := hsB
          generalize wr.drew = wd at *
          try simp only [Act.put, List.setIfInBounds_toArray, List.set_cons_zero, List.set_cons_succ]
          refine wpAnyH_take (i := 0) (v := ?_) (by simp only [List.getElem?_toArray, List.getElem?_cons_zero]; rfl) (by kernel_rfl) (by kernel_rfl) (by kernel_rfl) (by intro _ _ _ h; exact h) (Or.inl ⟨by rfl, ?_⟩) hHeld ?_
          rotate_left 1
          · intro wq hSw
            try dsimp only at hSw
            go_simp
            try (with_reducible rfl)
          try simp only [Act.put, List.setIfInBounds_toArray, List.set_cons_zero, List.set_cons_succ]
          refine wpAnyH_take (i := 1) (v := ?_) (by simp only [List.getElem?_toArray, List.getElem?_cons_succ, List.getElem?_cons_zero]; rfl) (by kernel_rfl) (by kernel_rfl) (by kernel_rfl) (by intro _ _ _ h; exact h) (Or.inl ⟨by rfl, ?_⟩) hHeld ?_
          rotate_left 1
          · intro wq hSw
            try dsimp only at hSw
            go_simp
            try (with_reducible rfl)
          try simp only [Act.put, List.setIfInBounds_toArray, List.set_cons_zero, List.set_cons_succ]
          refine wpAnyH_take (i := 2) (v := ?_) (by simp only [List.getElem?_toArray, List.getElem?_cons_succ, List.getElem?_cons_zero]; rfl) (by kernel_rfl) (by kernel_rfl) (by kernel_rfl) (by intro _ _ _ h; exact h) (Or.inl ⟨by rfl, ?_⟩) hHeld ?_
          rotate_left 1
          · intro wq hSw
            try dsimp only at hSw
            obtain ⟨q0, q1, q2', q3, q4, _⟩ := (V.but hSw (by omega)).five
            go_simp
            try (with_reducible rfl)
          try simp only [Act.put, List.setIfInBounds_toArray, List.set_cons_zero, List.set_cons_succ]
          refine wpAnyH_take (i := 3) (v := ?_) (by simp only [List.getElem?_toArray, List.getElem?_cons_succ, List.getElem?_cons_zero]; rfl) (by kernel_rfl) (by kernel_rfl) (by kernel_rfl) (by intro _ _ _ h; exact h) (Or.inl ⟨by rfl, ?_⟩) hHeld ?_
          rotate_left 1
          · intro wq hSw
            try dsimp only at hSw
            go_simp
            try (with_reducible rfl)
          try simp only [Act.put, List.setIfInBounds_toArray, List.set_cons_zero, List.set_cons_succ]
          refine wpAnyH_take (i := 4) (v := (.int .i64 (p : Int))) (by simp only [List.getElem?_toArray, List.getElem?_cons_succ, List.getElem?_cons_zero]; rfl) (by kernel_rfl) (by kernel_rfl) (by kernel_rfl) (by intro _ _ _ h; exact h) (Or.inl ⟨by rfl, ?_⟩) hHeld ?_
          · intro wq hSw
            try dsimp only at hSw
            go_simp
            rw [IntWalk.i64_left]
            unfold wrap64
            have := hp.out
            omega
          try simp only [Act.put, List.setIfInBounds_toArray, List.set_cons_zero, List.set_cons_succ]
          refine wpAnyH_take (i := 5) (v := ?_) (by simp only [List.getElem?_toArray, List.getElem?_cons_succ, List.getElem?_cons_zero]; rfl) (by kernel_rfl) (by kernel_rfl) (by kernel_rfl) (by intro _ _ _ h; exact h) (Or.inl ⟨by rfl, ?_⟩) hHeld ?_
          rotate_left 1
          · intro wq hSw
            try dsimp only at hSw
            go_simp
            try (with_reducible rfl)
          try simp only [Act.put, List.setIfInBounds_toArray, List.set_cons_zero, List.set_cons_succ]
          refine wpAnyH_take (i := 6) (v := ?_) (by simp only [List.getElem?_toArray, List.getElem?_cons_succ, List.getElem?_cons_zero]; rfl) (by kernel_rfl) (by kernel_rfl) (by kernel_rfl) (by intro _ _ _ h; exact h) (Or.inl ⟨by rfl, ?_⟩) hHeld ?_
          rotate_left 1
          · intro wq hSw
            try dsimp only at hSw
            obtain ⟨q0, q1, q2', q3, q4, _⟩ := (V.but hSw (by omega)).five
            go_simp
            try (with_reducible rfl)
          try simp only [Act.put, List.setIfInBounds_toArray, List.set_cons_zero, List.set_cons_succ]
          refine wpAnyH_take (i := 7) (v := ?_) (by simp only [List.getElem?_toArray, List.getElem?_cons_succ, List.getElem?_cons_zero]; rfl) (by kernel_rfl) (by kernel_rfl) (by kernel_rfl) (by intro _ _ _ h; exact h) (Or.inl ⟨by rfl, ?_⟩) hHeld ?_
          rotate_left 1
          · intro wq hSw
            try dsimp only at hSw
            go_simp
            try (with_reducible rfl)
          try simp only [Act.put, List.setIfInBounds_toArray, List.set_cons_zero, List.set_cons_succ]
          refine wpAnyH_take (i := 8) (v := ?_) (by simp only [List.getElem?_toArray, List.getElem?_cons_succ, List.getElem?_cons_zero]; rfl) (by kernel_rfl) (by kernel_rfl) (by kernel_rfl) (by intro _ _ _ h; exact h) (Or.inl ⟨by rfl, ?_⟩) hHeld ?_
          rotate_left 1
          · intro wq hSw
            try dsimp only at hSw
            obtain ⟨q0, q1, q2', q3, q4, _⟩ := (V.but hSw (by omega)).five
            go_simp
            try (with_reducible rfl)
          try simp only [Act.put, List.setIfInBounds_toArray, List.set_cons_zero, List.set_cons_succ]
          refine wpAnyH_take (i := 9) (v := ?_) (by simp only [List.getElem?_toArray, List.getElem?_cons_succ, List.getElem?_cons_zero]; rfl) (by kernel_rfl) (by kernel_rfl) (by kernel_rfl) (by intro _ _ _ h; exact h) (Or.inl ⟨by rfl, ?_⟩) hHeld ?_
          rotate_left 1
          · intro wq hSw
            try dsimp only at hSw
            go_simp
            try (with_reducible rfl)
          try simp only [Act.put, List.setIfInBounds_toArray, List.set_cons_zero, List.set_cons_succ]
          refine wpAnyH_take (i := 10) (v := ?_) (by simp only [List.getElem?_toArray, List.getElem?_cons_succ, List.getElem?_cons_zero]; rfl) (by kernel_rfl) (by kernel_rfl) (by kernel_rfl) (by intro _ _ _ h; exact h) (Or.inl ⟨by rfl, ?_⟩) hHeld ?_
          rotate_left 1
          · intro wq hSw
            try dsimp only at hSw
            go_simp
            try (with_reducible rfl)
          try simp only [Act.put, List.setIfInBounds_toArray, List.set_cons_zero, List.set_cons_succ]
          refine wpAnyH_take (i := 11) (v := (.int .i64 ((j : Int) * 32))) (by simp only [List.getElem?_toArray, List.getElem?_cons_succ, List.getElem?_cons_zero]; rfl) (by kernel_rfl) (by kernel_rfl) (by kernel_rfl) (by intro _ _ _ h; exact h) (Or.inl ⟨by rfl, ?_⟩) hHeld ?_
          · intro wq hSw
            try dsimp only at hSw
            go_simp
            rw [IntWalk.i64_left]
            unfold wrap64
            omega
          try simp only [Act.put, List.setIfInBounds_toArray, List.set_cons_zero, List.set_cons_succ]
          refine wpAnyH_take (i := 12) (v := ?_) (by simp only [List.getElem?_toArray, List.getElem?_cons_succ, List.getElem?_cons_zero]; rfl) (by kernel_rfl) (by kernel_rfl) (by kernel_rfl) (by intro _ _ _ h; exact h) (Or.inl ⟨by rfl, ?_⟩) hHeld ?_
          rotate_left 1
          · intro wq hSw
            try dsimp only at hSw
            go_simp
            try (with_reducible rfl)
          try simp only [Act.put, List.setIfInBounds_toArray, List.set_cons_zero, List.set_cons_succ]
          refine wpAnyH_ready (rs := [13]) (by kernel_rfl) (by simp) ?_
          refine AllReadyH.cons (by simp only [List.getElem?_toArray, List.getElem?_cons_succ, List.getElem?_cons_zero]; rfl) (fun K hK => ?_) AllReadyH.nil
          go_simp
          refine (hC wd hSj).mono ?_
          clear hC
          rintro e w6 ⟨rfl, b6⟩
          have bN := hHeld.below2 b6
          have R6 := Rd.under b6
          go_wp2_with fail
          refine hK.out _ _ (bN) (fun hHeld => ?_)
          clear hK K
          try dsimp only at hHeld
          clear bN
          try simp only [Act.put, List.setIfInBounds_toArray, List.set_cons_zero, List.set_cons_succ]
          refine wpAnyH_take (i := 14) (v := ?_) (by simp only [List.getElem?_toArray, List.getElem?_cons_succ, List.getElem?_cons_zero]; rfl) (by kernel_rfl) (by kernel_rfl) (by kernel_rfl) (by intro _ _ _ h; exact h) (Or.inl ⟨by rfl, ?_⟩) hHeld ?_
          rotate_left 1
          · intro wq hSw
            try dsimp only at hSw
            go_simp
            try (with_reducible rfl)
          try simp only [Act.put, List.setIfInBounds_toArray, List.set_cons_zero, List.set_cons_succ]
          refine wpAnyH_ready (rs := [15]) (by kernel_rfl) (by simp) ?_
          refine AllReadyH.cons (by simp only [List.getElem?_toArray, List.getElem?_cons_succ, List.getElem?_cons_zero]; rfl) (fun K hK => ?_) AllReadyH.nil
          obtain ⟨cs, hcs, hBk⟩ := R6.blk
          have hcs2 : p * 34 + 34 ≤ cs.size := by rw [hol.out] at hcs; have e34 : cpE.k = 34 := rfl; rw [e34] at hcs; omega
          refine (if_pos (by rfl)).mpr (wp_storeC hBk 46 (.tmp 44) (.tmp 43) rfl (z := ⟨x.k, x.g, chunk (xby x) j⟩) hzl rfl rfl hcs2 szC ?_)
          have R7 := R6.set (i := p) (by rw [hol.out]; exact hjp) (y := ⟨x.k, x.g, chunk (xby x) j⟩) (vs := cpV ⟨x.k, x.g, chunk (xby x) j⟩) ⟨rfl, ⟨hzl, hkw, hgww⟩⟩
          have bN := hHeld.then (setL_but w6 go (p * 34) (cpV ⟨x.k, x.g, chunk (xby x) j⟩))
          have bb7 := setL_below hgw (cpV ⟨x.k, x.g, chunk (xby x) j⟩) (p * 34) (bb6.trans (b6.mono hs6))
          clear hBk hcs hcs2
          refine hK.out _ _ (bN) (fun hHeld => ?_)
          clear hK K
          try dsimp only at hHeld
          clear bN
          try simp only [Act.put, List.setIfInBounds_toArray, List.set_cons_zero, List.set_cons_succ]
          refine wpAnyH_done (by kernel_rfl) ?_ _
          have bt7 := bt.then hHeld
          have Rj : Ro cpE (fun _ => True) 46 (setL w6 go (p * 34) (cpV ⟨x.k, x.g, chunk (xby x) j⟩)) go (ofJ D x bn (j + 1)) := by rw [← hset.out]; exact R7
          clear R7 R6 Rd hHeld bb6 hSj hcut
          generalize setL w6 go (p * 34) (cpV ⟨x.k, x.g, chunk (xby x) j⟩) = w8 at *
          go_wp2
          go_roundg q2
          case measure => omega
          case rel => exact ⟨j + 1, by omega, by first | rfl | (simp; done) | (simp; exact wrap64_small (by omega) (by omega)), Rj, bt7, bb7⟩
        · obtain rfl : j = ln := by omega
          have Rn : Ro cpE (fun _ => True) 46 wr go (iof (xs.take (k + 1)) ++ List.replicate (bn - (iof (xs.take (k + 1))).length) c0p) := by rw [hDn.out, ← ofJ_end, hxc.out]; exact R
          clear R
          go_wp2
          go_roundg q
          case measure => omega
          case rel => exact ⟨k + 1, by omega, by first | rfl | (simp; done) | (simp; exact wrap64_small (by omega) (by omega)), Rn, bb⟩
    · obtain rfl : k = n := by omega
      rw [List.take_of_length_le (Nat.le_of_eq HN.out)] at R
      have hbl : (iof xs).length = bn := by have := hlen.out; omega
      rw [hbl, Nat.sub_self, List.replicate_zero, List.append_nil] at R
      go_wp2
      go_ret2
      exact ⟨some ⟨go, 0, none⟩, bn, bn, hbl, rfl, R.toRsC hbl (Nat.le_refl _) (by omega) hgw, bb⟩
end Go.Proofs.Ytagageidiebogaa

/-
  Contracts of slices.Clone of bytes, image.one and image.Map (written by gen_im8.py).
-/
namespace Go.Wag
open Go.RowKit
set_option linter.unusedVariables false
/-- A block as an extent, and the map of blocks. -/
def oneX (i : Nat) (c : Cp) : Xp := ⟨i, 1, c.k, c.g, if c.k = 2 then c.d else []⟩
def ones : Nat → List Cp → List Xp
  | _, [] => []
  | i, c :: l => oneX i c :: ones (i + 1) l
def imap (l : List Cp) : List Xp := joinL (ones 0 l)
theorem ones_snoc : ∀ (l : List Cp) (i : Nat) (c : Cp), ones i (l ++ [c]) = ones i l ++ [oneX (i + l.length) c]
  | [], i, c => rfl
  | d :: l, i, c => by
    rw [List.cons_append, ones, ones_snoc l (i + 1) c, ones, List.length_cons, show i + 1 + l.length = i + (l.length + 1) by omega]
    rfl
theorem jgo_snoc : ∀ (l : List Xp) (x y : Xp), ∃ M z, jgo x l = M ++ [z] ∧ jgo x (l ++ [y]) = if xjoins z y then M ++ [xboth z y] else M ++ [z] ++ [y]
  | [], x, y => ⟨[], x, rfl, by
    show jgo x [y] = _
    rw [jgo_cons]
    split <;> rfl⟩
  | u :: l, x, y => by
    rw [List.cons_append, jgo_cons, jgo_cons]
    by_cases h : xjoins x u
    · rw [if_pos h, if_pos h]
      exact jgo_snoc l (xboth x u) y
    · rw [if_neg h, if_neg h]
      obtain ⟨M, z, e1, e2⟩ := jgo_snoc l u y
      refine ⟨x :: M, z, by rw [e1]; rfl, ?_⟩
      rw [e2]
      split <;> rfl
theorem imap_nil : imap [] = [] := rfl
theorem imap_first (c : Cp) : imap [c] = [oneX 0 c] := rfl
theorem imap_snoc {l : List Cp} (h : l ≠ []) (c : Cp) : ∃ M z, imap l = M ++ [z] ∧ imap (l ++ [c]) = if xjoins z (oneX l.length c) then M ++ [xboth z (oneX l.length c)] else M ++ [z] ++ [oneX l.length c] := by
  cases l with
  | nil => exact absurd rfl h
  | cons d l =>
    unfold imap
    rw [ones_snoc, ones, List.cons_append]
    simp only [joinL, Nat.zero_add]
    exact jgo_snoc (ones (0 + 1) l) (oneX 0 d) (oneX (d :: l).length c)
theorem jgo_len : ∀ (l : List Xp) (x : Xp), (jgo x l).length ≤ l.length + 1
  | [], x => by simp [jgo]
  | y :: l, x => by
    rw [jgo_cons]
    split
    · have := jgo_len l (xboth x y)
      rw [List.length_cons]
      omega
    · have := jgo_len l y
      rw [List.length_cons, List.length_cons]
      omega
theorem ones_len : ∀ (l : List Cp) (i : Nat), (ones i l).length = l.length
  | [], i => rfl
  | c :: l, i => by rw [ones, List.length_cons, List.length_cons, ones_len l (i + 1)]
theorem imap_len (l : List Cp) : (imap l).length ≤ l.length := by
  cases l with
  | nil => simp [imap, ones, joinL]
  | cons c l =>
    have h := jgo_len (ones 1 l) (oneX 0 c)
    rw [ones_len] at h
    exact h
theorem oneX_ok {i : Nat} {c : Cp} (hw : c.d.length = 32) (ho : c.ok = true) (hi : i < 64) : (oneX i c).ok = true := by
  obtain ⟨h1, h2, h3, h4, h5⟩ := Cp.all ho
  refine Xp.ok_of ?_ ?_ ?_ h1 h2 h3 h4 ?_ ?_
  · show (0 : Int) ≤ (i : Int); omega
  · show (1 : Int) ≤ 1; omega
  · show (i : Int) + 1 ≤ 64; omega
  · intro hk
    have hk' : c.k = 2 := hk
    show (((if c.k = 2 then c.d else []) : List UInt8).length : Int) = 32 * 1
    rw [if_pos hk', hw]
    rfl
  · intro hk
    have hk' : ¬ c.k = 2 := hk
    show (if c.k = 2 then c.d else []) = []
    rw [if_neg hk']
theorem ones_run : ∀ (l : List Cp) (i : Nat), (∀ c ∈ l, c.d.length = 32) → (∀ c ∈ l, c.ok = true) → i + l.length ≤ 64 → mrun (i : Int) (ones i l) ((i + l.length : Nat) : Int)
  | [], i, _, _, _ => rfl
  | c :: l, i, hw, ho, hi => by
    rw [List.length_cons] at hi ⊢
    refine ⟨oneX_ok (hw c (List.mem_cons_self ..)) (ho c (List.mem_cons_self ..)) (by omega), rfl, ?_⟩
    have := ones_run l (i + 1) (fun d hd => hw d (List.mem_cons_of_mem _ hd)) (fun d hd => ho d (List.mem_cons_of_mem _ hd)) (by omega)
    rw [show i + 1 + l.length = i + (l.length + 1) by omega] at this
    exact this
theorem imap_run {l : List Cp} (hw : ∀ c ∈ l, c.d.length = 32) (hi : ichk l = true) : mrun 0 (imap l) (l.length : Int) := by
  obtain ⟨⟨_, h64⟩, ho⟩ := ichk_iff.1 hi
  have := mrun_joinL (ones_run l 0 hw ho (by omega))
  simpa [imap] using this
theorem imap_map {l : List Cp} (hw : ∀ c ∈ l, c.d.length = 32) (hi : ichk l = true) : mapB (l.length : Int) (imap l) = true := by
  obtain ⟨⟨h1, h64⟩, _⟩ := ichk_iff.1 hi
  exact (mapB_iff _ _).2 ⟨by omega, by omega, imap_run hw hi, mapart_joinL _⟩
end Go.Wag
namespace Go.Proofs.Ytagageidiebogaa
open Go.RowKit Go.Wag
set_option linter.unusedVariables false
set_option linter.unusedSimpArgs false
set_option maxRecDepth 20000
theorem sl_nil_eqB (ad : Addr) (n c : Nat) (w : World) : (binOp .eql 37 (.slice (some ad) n c) (.slice none 0 0)).run Try.prog w = .ok (.bool false) w := by
  have := run_equal_slice_nil (P := Try.prog) w 37 5 (some ad) n c Try.underlying37
  simp only [binOp, Sem.run_bind, this, Result.andThen_ok, Sem.run_pure]
  rfl
theorem bClone_any (ad : Addr) (n c : Nat) (b : List UInt8) (w : World) (h : Sl w (some ad) n c (b.map v8)) (hn : n ≤ 1000000) :
    Calls Try.prog 42 #[.slice (some ad) n c] w fun e w' => ∃ A2 c2, e = .returned (.slice A2 n c2) ∧ Nw 5 w w' A2 n c2 (b.map v8) ∧ Below w.heap.size w w' := by
  obtain ⟨i0, hi0, hz0, hz1, hz2⟩ := info_parts i5
  have O0 := Own.empty w 5
  have a0 := (Below.refl w.heap.size w).alloc (Nat.le_refl _) (.cells #[] 5)
  obtain ⟨A4, c4, w4, hr, hO⟩ := run_app (P := Try.prog) O0 37 37 i0 (.int .u8 0) 1 Try.underlying37 hi0 hz0 hz1 hz2 rfl _ _ _ _ (h.below a0) (oneCell8 _) (by omega) (by omega)
  have b4 := hO.below_made
  have N4 := hO.own
  rw [List.nil_append, Nat.zero_add] at N4
  rw [Nat.zero_add] at hr
  have hq := sl_nil_eqB ad n c
  clear hO O0 a0
  go_enter Try.func42, Try.ntmps42
  go_wp2_with (at_builtin; refine wpList_run rfl (.tmp 5) (.tmp 6) 37 rfl rfl rfl hr ?_; intro _)
  go_ret
  exact ⟨A4, c4, rfl, N4, b4⟩
/-- An extent of one block, in memory of its own. -/
def OnePost (w : World) (x : Xp) (e : Ending) (w' : World) : Prop := ∃ A m cc, Hid (m = x.l.length) ∧ e = .returned (.agg #[.int .i64 x.la, .int .i64 x.n, .int .i64 x.k, .int .i64 x.g, .slice A m cc]) ∧ Nw 5 w w' A m cc (x.l.map v8) ∧ Below w.heap.size w w'
set_option maxHeartbeats 4000000 in
theorem iOne_any (i : Nat) (x : Cp) (w : World) (hx : x.wf) :
    Calls Try.prog 24 #[.int .i64 (i : Int), .agg (cpA x)] w (OnePost w (oneX i x)) := by
  have hlen := hx.len
  have V := Blk.new w (cpA x) 46
  have U := Blk.new (w.alloc (.cells (cpA x) 46)) #[.int .i64 0, .int .i64 0, .int .i64 0, .int .i64 0, .slice none 0 0] 41
  have V2 := V.alloc (.cells #[.int .i64 0, .int .i64 0, .int .i64 0, .int .i64 0, .slice none 0 0] 41)
  have a2 := ((Below.refl w.heap.size w).alloc (Nat.le_refl _) (.cells (cpA x) 46)).alloc (by simp) (.cells #[.int .i64 0, .int .i64 0, .int .i64 0, .int .i64 0, .slice none 0 0] 41)
  simp only [World.size_alloc] at U
  go_enter Try.func24, Try.ntmps24
  go_upto_region 1 with (fail)
  generalize (w.alloc (.cells (cpA x) 46)).alloc (.cells #[.int .i64 0, .int .i64 0, .int .i64 0, .int .i64 0, .slice none 0 0] 41) = w1 at *
  obtain ⟨kc, hkc⟩ : ∃ k, w.heap.size = k := ⟨_, rfl⟩
  simp only [hkc] at V2 U ⊢
  obtain ⟨kr, hkr⟩ : ∃ k, kc + 1 = k := ⟨_, rfl⟩
  simp only [hkr] at U ⊢
  have C := V2.cs hx
  have v0 := C.kind
  have v1 := C.gen
  have U1 := U.alloc (.cells #[.int .i64 (i : Int), .int .i64 1, .int .i64 x.k, .int .i64 x.g, .slice none 0 0] 41)
  have V3 := V2.alloc (.cells #[.int .i64 (i : Int), .int .i64 1, .int .i64 x.k, .int .i64 x.g, .slice none 0 0] 41)
  have X := Blk.new w1 #[.int .i64 (i : Int), .int .i64 1, .int .i64 x.k, .int .i64 x.g, .slice none 0 0] 41
  have bb := a2.alloc a2.size (.cells #[.int .i64 (i : Int), .int .i64 1, .int .i64 x.k, .int .i64 x.g, .slice none 0 0] 41)
  go_upto_region 2 with (fail)
  try simp only [Act.put, List.setIfInBounds_toArray, List.set_cons_zero, List.set_cons_succ]
  have hkr1 := U.lt
  clear v0 v1 C V V2 U a2
  generalize w1.alloc (.cells #[.int .i64 (i : Int), .int .i64 1, .int .i64 x.k, .int .i64 x.g, .slice none 0 0] 41) = w2 at *
  obtain ⟨kx, hkx⟩ : ∃ k, w1.heap.size = k := ⟨_, rfl⟩
  simp only [hkx] at X ⊢
  have hrx : kr < kx := by omega
  have hwr : w.heap.size ≤ kr := by omega
  have hwc : w.heap.size ≤ kx := by omega
  have hcx : kc ≠ kx := by omega
  have hkr' : kr ≠ kx := by omega
  clear hkx hkr hkc hkr1
  have C := V3.cs hx
  have v0 := C.kind
  have hcl := V3.lt
  have RET : ∀ (W : World) (A : Option Addr) (m cc : Nat), m = (oneX i x).l.length → Blk W kr #[.int .i64 0, .int .i64 0, .int .i64 0, .int .i64 0, .slice none 0 0] 41 → Nw 5 w W A m cc ((oneX i x).l.map v8) → (∀ ad, A = some ad → ad.block ≠ kr) → Below w.heap.size w W → OnePost w (oneX i x) (.returned (.agg #[.int .i64 (i : Int), .int .i64 1, .int .i64 x.k, .int .i64 x.g, .slice A m cc])) (setL W kr 0 [.int .i64 (i : Int), .int .i64 1, .int .i64 x.k, .int .i64 x.g, .slice A m cc]) := fun W A m cc hm hU hN hA hB => by
    refine ⟨A, m, cc, hm, rfl, ?_, setL_below hwr _ _ hB⟩
    exact ((((hN.far (a := ⟨kr, 0, none⟩) hA _).far (a := ⟨kr, 1, none⟩) hA _).far (a := ⟨kr, 2, none⟩) hA _).far (a := ⟨kr, 3, none⟩) hA _).far (a := ⟨kr, 4, none⟩) hA _
  by_cases hk : x.k = 2
  · have kb : (x.k == 2) = true := by simp [hk]
    have hl : (oneX i x).l = x.d := by show (if x.k = 2 then x.d else []) = x.d; rw [if_pos hk]
    have hSd := C.data hcl (Nat.le_refl 32) (by omega)
    rw [Nat.zero_add] at hSd
    replace hk := Lib.hid hk
    go_wp2_with fail
    refine (bClone_any ⟨kc, 2, none⟩ 32 32 x.d w2 hSd (by omega)).mono ?_
    rintro e w3 ⟨A3, c3, rfl, N3, b3⟩
    have hX := X.lt
    have hU := U1.lt
    have hfx : ∀ ad, A3 = some ad → ad.block ≠ kx := fun ad ea => by have := N3.fr ad ea; omega
    have hfr : ∀ ad, A3 = some ad → ad.block ≠ kr := fun ad ea => by have := N3.fr ad ea; omega
    replace X := X.under b3
    replace U1 := U1.under b3
    have N4 : Nw 5 w w3 A3 32 c3 (x.d.map v8) := Nw.mono N3 bb.size
    replace bb := bb.trans (b3.mono bb.size)
    clear b3 N3 hSd C v0 V3
    obtain ⟨x0', x1', x2', x3', x4', f0, f1, f2, f3, f4⟩ := X.five
    go_upto_region 4 with (fail)
    try simp only [Act.put, List.setIfInBounds_toArray, List.set_cons_zero, List.set_cons_succ]
    replace X := X.set 4 (.slice A3 32 c3)
    simp only [List.setIfInBounds_toArray, List.set_cons_zero, List.set_cons_succ] at X
    replace U1 := U1.far (a := ⟨kx, 4, none⟩) hkr' (.slice A3 32 c3)
    replace N4 := N4.far (a := ⟨kx, 4, none⟩) hfx (.slice A3 32 c3)
    replace bb := bb.setCell (p := ⟨kx, 4, none⟩) hwc (.slice A3 32 c3)
    generalize w3.setCell ⟨kx, 4, none⟩ (.slice A3 32 c3) = w5 at *
    clear x0' x1' x2' x3' x4' f0 f1 f2 f3 f4
    obtain ⟨x0', x1', x2', x3', x4', _⟩ := X.five
    obtain ⟨z0, z1, z2, z3, z4, u0, u1, u2, u3, u4⟩ := U1.five
    have hR := RET w5 A3 32 c3 (by rw [hl, hlen]) U1 (by rw [hl]; exact N4) hfr bb
    go_wp2
    try simp only [Exit.inBlock, Exit.then]
    exact ret_blk rfl rfl (((((U1.set 0 (_)).set 1 (_)).set 2 (_)).set 3 (_)).set 4 (_)) Try.underlying41 (by kernel_rfl) hR
  · have kb : (x.k == 2) = false := by simp [hk]
    have hl : (oneX i x).l = [] := by show (if x.k = 2 then x.d else []) = []; rw [if_neg hk]
    obtain ⟨x0', x1', x2', x3', x4', _⟩ := X.five
    obtain ⟨z0, z1, z2, z3, z4, u0, u1, u2, u3, u4⟩ := U1.five
    have hR := RET w2 none 0 0 (by rw [hl]; rfl) U1 (by rw [hl]; exact Nw.nil _ _ _) (fun ad ea => by cases ea) bb
    replace hk := Lib.hid hk
    go_wp2
    try simp only [Exit.inBlock, Exit.then]
    exact ret_blk rfl rfl (((((U1.set 0 (_)).set 1 (_)).set 2 (_)).set 3 (_)).set 4 (_)) Try.underlying41 (by kernel_rfl) hR
end Go.Proofs.Ytagageidiebogaa

/-
  Contract of image.Map (written by gen_im9.py).
-/
namespace Go.Wag
open Go.RowKit
set_option linter.unusedVariables false
theorem Rq.openB {α : Type} {E : Elt α} {F : Nat → Prop} {B : Nat} {t : TypeId} {w : World} {A : Option Addr} {n c : Nat} {xs : List α} (h : Rq E F B t w A n c xs) (hn : 0 < n) : ∃ g cur, A = some ⟨g, 0, none⟩ ∧ B ≤ g ∧ n ≤ c ∧ c ≤ 9223372036854775807 ∧ cur.size = c * E.k ∧ Blk w g cur t ∧ Ro E F t w g xs := by
  obtain ⟨g, e, hB, hc, hb, hR⟩ := h.toRo hn
  subst e
  obtain ⟨cs, hx, _⟩ := id h.row
  rcases hx.2 with ⟨hv, _⟩ | ⟨g', cap, cur, hv, hB', hg, hnc, hm, hsz, hcs⟩
  · simp at hv
  · obtain ⟨rfl, rfl⟩ : g = g' ∧ c = cap := by simpa using hv
    exact ⟨g, cur, rfl, hB, hc, hb, hsz, hg, hR⟩
theorem rq_of_ro {α : Type} {E : Elt α} {F : Nat → Prop} {B : Nat} {t : TypeId} {w : World} {g n c : Nat} {cur : Array Value} {xs : List α} (R : Ro E F t w g xs) (hB : B ≤ g) (Bk : Blk w g cur t) (hsz : cur.size = c * E.k) (hn : xs.length = n) (hnc : n ≤ c) (hc : c ≤ 9223372036854775807) : Rq E F B t w (some ⟨g, 0, none⟩) n c xs := by
  have hle : n * E.k ≤ c * E.k := Nat.mul_le_mul_right _ hnc
  refine ⟨hn, cur.toList.take (n * E.k), ⟨by rw [List.length_take, Array.length_toList]; omega, .inr ⟨g, c, cur, rfl, hB, Bk, hnc, by simpa [maxLen] using hc, hsz, rfl⟩⟩, fun i x hi => ?_⟩
  obtain ⟨vs, hr, hv⟩ := R.at_ i x hi
  refine ⟨vs, E.imp hr (fun b _ hb => ⟨hb.1, fun e => hb.2 (Option.some.inj e).symm⟩), fun j v hj => ?_⟩
  have h1 := hv j v hj
  rw [Bk.cell] at h1
  have hil := (List.getElem?_eq_some_iff.1 hi).1
  have hjl := (List.getElem?_eq_some_iff.1 hj).1
  rw [E.len hr] at hjl
  have hlt : i * E.k + j < n * E.k := by
    have : (i + 1) * E.k ≤ n * E.k := Nat.mul_le_mul_right _ (by omega)
    rw [Nat.add_mul] at this
    omega
  rw [List.getElem?_take, if_pos hlt, Array.getElem?_toList]
  exact h1
theorem imap_ok {l : List Cp} (hw : ∀ c ∈ l, c.d.length = 32) (hi : ∀ c ∈ l, c.ok = true) (h64 : l.length ≤ 64) : ∀ z ∈ imap l, z.ok = true := by
  rcases Nat.eq_zero_or_pos l.length with h | h
  · have : l = [] := List.length_eq_zero_iff.1 h
    subst this
    intro z hz
    cases hz
  · exact mrun_ok (imap_run hw (ichk_iff.2 ⟨⟨h, h64⟩, hi⟩))
end Go.Wag
namespace Go.Proofs.Ytagageidiebogaa
open Go.RowKit Go.Wag
set_option linter.unusedVariables false
set_option linter.unusedSimpArgs false
set_option maxRecDepth 20000
theorem un38 : ∃ fs, Try.prog.underlying 41 = some (.struct fs) := ⟨_, Try.underlying41⟩
theorem xjF_is {a b : Xp} {m n : Nat} (h1 : m = a.l.length) (h2 : n = b.l.length) : xjF a.la a.n a.k a.g m b.la b.n b.k b.g n = xjoins a b := by
  subst h1 h2
  rfl
set_option maxHeartbeats 8000000 in
theorem iMap_any {F : Nat → Prop} (xs : List Cp) (A : Option Addr) (n c : Nat) (w : World) (h : Rs cpE F w A n c xs) :
    Calls Try.prog 8 #[.slice A n c] w (LErr w (if ichk xs = true then imap xs else []) (if ichk xs = true then 0 else 90)) := by
  have HN : Hid (xs.length = n) := h.len
  have hcap := h.cap
  have hbig := h.big
  have hwfs := h.wfs
  obtain ⟨iX, hiX, hzX, hsX, hbX⟩ := iExt
  have hC := iCheck_any xs A n c w h
  cases hi : ichk xs
  · rw [hi] at hC
    rw [if_neg (by simp), if_neg (by simp)]
    go_enter Try.func8, Try.ntmps8
    go_wp2_with fail
    refine hC.mono ?_
    rintro e w2 ⟨rfl, b2⟩
    go_wp2
    go_ret2
    exact LErr.nil _ b2
  rw [hi] at hC
  rw [if_pos rfl, if_pos rfl]
  obtain ⟨⟨h1, h64⟩, hoks⟩ := ichk_iff.1 hi
  have hn64 : n ≤ 64 := by rw [← HN.out]; exact h64
  replace hoks := Lib.hid hoks
  clear h1 h64
  go_enter Try.func8, Try.ntmps8
  go_wp2_with fail
  refine hC.mono ?_
  clear hC
  rintro e w2 ⟨rfl, b2⟩
  go_wp2_with fail
  go_loopg [4, 14] n (fun q o i wr => ∃ (k : Nat) (Ar : Option Addr) (nr cr : Nat), k + q = n ∧ o = .slice Ar nr cr ∧ i = .int .i64 (k : Int) ∧ nr ≤ k ∧ Rq extE (fun z => w.heap.size ≤ z) w.heap.size 41 wr Ar nr cr (imap (xs.take k)) ∧ Below w.heap.size w wr)
  case atStart => exact ⟨0, none, 0, 0, by omega, rfl, rfl, by omega, by rw [List.take_zero, imap_nil]; exact Rq.nil _ _ _ _ _, b2⟩
  case round =>
    clear b2
    obtain ⟨k, Ar, nr, cr, hk, rfl, rfl, hnr, R, bb⟩ := hrel
    by_cases hlt : (k : Int) < (n : Int)
    · obtain ⟨q, rfl⟩ : ∃ q, gk = q + 1 := ⟨gk - 1, by omega⟩
      obtain ⟨gb, o, x, rfl, _, hg, hz, C0⟩ := h.cp_at (show k < n by omega)
      have C := C0.below bb hg
      have hxw := C.1.len
      have hxwf := C.1
      have htk := take_one hz
      have htl : (xs.take k).length = k := by rw [List.length_take]; have := HN.out; omega
      have hpok := imap_ok (l := xs.take k) (fun c hc => (hwfs c (List.mem_of_mem_take hc)).len) (fun c hc => hoks.out c (List.mem_of_mem_take hc)) (by omega)
      clear C0 hz
      go_upto_region 7 with (first | with_reducible refine wpList_loadCP rfl 46 (.tmp 17) rfl rfl C Try.underlying46 szC ?_ | with_reducible refine wpList_new rfl 46 rfl (cpA c0p) 46 allocC ?_ | with_reducible refine wpList_varC rfl 46 (.tmp 6) (.tmp 18) rfl (Blk.new wr (cpA c0p) 46) rfl hxw rfl rfl szC ?_)
      try simp only [Act.put, List.setIfInBounds_toArray, List.set_cons_zero, List.set_cons_succ]
      simp only [setRow_new]
      have V := Cs.var (w := wr) (t := 46) hxwf
      have a1 := (Below.refl wr.heap.size wr).alloc (Nat.le_refl _) (.cells (cpA x) 46)
      replace R := R.under a1
      replace bb := bb.trans (a1.mono bb.size)
      clear C a1
      generalize wr.alloc (.cells (cpA x) 46) = w3 at *
      generalize wr.heap.size = kc at *
      go_wp2_with (with_reducible refine wpList_loadCP rfl 46 (.tmp 6) rfl rfl V Try.underlying46 szC ?_)
      refine (iOne_any k x w3 hxwf).mono ?_
      clear V
      have hroo := R.lt
      obtain ⟨y, hy⟩ : ∃ y, oneX k x = y := ⟨_, rfl⟩
      have hyla : y.la ≤ 9223372036854775807 := by rw [← hy]; show (k : Int) ≤ _; omega
      rw [hy]
      rintro e w4 ⟨A1, m1, c1, hm1, rfl, N1, b1⟩
      replace R := R.under b1
      have hs3 := bb.size
      have hA1 : ∀ ad, A1 = some ad → w.heap.size ≤ ad.block := fun ad ea => by have := N1.fr ad ea; omega
      have S1 := Sl.of_own N1
      have hA1o : 0 < m1 → ∀ ad, A1 = some ad → ad.block < w4.heap.size := fun h0 ad ea => by
        obtain ⟨ad', e', hlt', _⟩ := S1.cells h0
        cases ea.symm.trans e'
        exact hlt'
      replace bb := bb.trans (b1.mono bb.size)
      have X := Blk.new w4 #[.int .i64 y.la, .int .i64 y.n, .int .i64 y.k, .int .i64 y.g, .slice A1 m1 c1] 41
      have a1 := (Below.refl w4.heap.size w4).alloc (Nat.le_refl _) (.cells #[.int .i64 y.la, .int .i64 y.n, .int .i64 y.k, .int .i64 y.g, .slice A1 m1 c1] 41)
      replace S1 := S1.below a1
      have hArA : ∀ ad, A1 = some ad → (Value.slice Ar nr cr).ownBlock ≠ some ad.block := fun ad ea e => by
        have h1 := N1.fr ad ea
        have := (hroo _ e).2
        omega
      have hkx : ∀ b, (Value.slice Ar nr cr).ownBlock = some b → b < w4.heap.size := fun b hb => (R.lt b hb).2
      replace R := R.under a1
      replace bb := bb.trans (a1.mono bb.size)
      have hwx : w.heap.size ≤ w4.heap.size := by have := b1.size; omega
      have hm1l : (m1 : Nat) = y.l.length := hm1.out
      replace hm1l := Lib.hid hm1l
      clear N1 b1 a1 hroo hs3
      go_upto_region 8 with (fail)
      try simp only [Act.put, List.setIfInBounds_toArray, List.set_cons_zero, List.set_cons_succ]
      generalize w4.alloc (.cells #[.int .i64 y.la, .int .i64 y.n, .int .i64 y.k, .int .i64 y.g, .slice A1 m1 c1] 41) = w5 at *
      obtain ⟨kx, hkxe⟩ : ∃ k, w4.heap.size = k := ⟨_, rfl⟩
      simp only [hkxe] at X hkx hwx ⊢
      have hA1k : ∀ ad, A1 = some ad → ad.block ≠ kx ∨ m1 = 0 := fun ad ea => by
        rcases Nat.eq_zero_or_pos m1 with h0 | h0
        · exact .inr h0
        · exact .inl (by have := hA1o h0 ad ea; omega)
      clear hkxe hA1o
      rcases Nat.eq_zero_or_pos k with hk0 | hk0
      · skip
        subst hk0
        have hl0 : imap (xs.take 0) = [] := by rw [List.take_zero, imap_nil]
        have hl1 : imap (xs.take 0) ++ [y] = imap (xs.take (0 + 1)) := by rw [htk, List.take_zero, imap_nil, ← hy]; rfl
        obtain rfl : nr = 0 := by omega
        replace hl1 := Lib.hid hl1
        replace hy := Lib.hid hy
        clear hl0 htk htl hpok
        go_wp2_with fail
        refine wp_region_held_drew (S := fun w' => Below w5.heap.size w5 w') (by kernel_rfl) (Below.refl _ _).drew (fun hHeld => ?_)
        try dsimp only at hHeld
        have Xd := X.drew
        have S1d := S1.drew
        have Rd := R.drew
        generalize w5.drew = wd at *
        try simp only [Act.put, List.setIfInBounds_toArray, List.set_cons_zero, List.set_cons_succ]
        refine wpAnyH_take (i := 0) (v := ?_) (by simp only [List.getElem?_toArray, List.getElem?_cons_zero]; rfl) (by kernel_rfl) (by kernel_rfl) (by kernel_rfl) (by intro _ _ _ h; exact h) (Or.inl ⟨by rfl, ?_⟩) hHeld ?_
        rotate_left 1
        · intro wq hSw
          try dsimp only at hSw
          go_simp
          try (with_reducible rfl)
        try simp only [Act.put, List.setIfInBounds_toArray, List.set_cons_zero, List.set_cons_succ]
        refine wpAnyH_take (i := 1) (v := (.bool false)) (by simp only [List.getElem?_toArray, List.getElem?_cons_succ, List.getElem?_cons_zero]; rfl) (by kernel_rfl) (by kernel_rfl) (by kernel_rfl) (by intro _ _ _ h; exact h) (Or.inl ⟨by rfl, ?_⟩) hHeld ?_
        · intro wq hSw
          try dsimp only at hSw
          go_simp
          try simp
          try decide
        try simp only [Act.put, List.setIfInBounds_toArray, List.set_cons_zero, List.set_cons_succ]
        refine wpAnyH_take (i := 2) (v := ?_) (by simp only [List.getElem?_toArray, List.getElem?_cons_succ, List.getElem?_cons_zero]; rfl) (by kernel_rfl) (by kernel_rfl) (by kernel_rfl) (by intro _ _ _ h; exact h) (Or.inl ⟨by rfl, ?_⟩) hHeld ?_
        rotate_left 1
        · intro wq hSw
          try dsimp only at hSw
          go_simp
          try (with_reducible rfl)
        try simp only [Act.put, List.setIfInBounds_toArray, List.set_cons_zero, List.set_cons_succ]
        refine wpAnyH_take (i := 3) (v := undef) (by simp only [List.getElem?_toArray, List.getElem?_cons_succ, List.getElem?_cons_zero]; rfl) (by kernel_rfl) (by kernel_rfl) (by kernel_rfl) (by intro _ _ _ h; exact h) (Or.inr ⟨by rfl, rfl⟩) hHeld ?_
        try simp only [Act.put, List.setIfInBounds_toArray, List.set_cons_zero, List.set_cons_succ]
        refine wpAnyH_take (i := 4) (v := undef) (by simp only [List.getElem?_toArray, List.getElem?_cons_succ, List.getElem?_cons_zero]; rfl) (by kernel_rfl) (by kernel_rfl) (by kernel_rfl) (by intro _ _ _ h; exact h) (Or.inr ⟨by rfl, rfl⟩) hHeld ?_
        try simp only [Act.put, List.setIfInBounds_toArray, List.set_cons_zero, List.set_cons_succ]
        refine wpAnyH_take (i := 5) (v := undef) (by simp only [List.getElem?_toArray, List.getElem?_cons_succ, List.getElem?_cons_zero]; rfl) (by kernel_rfl) (by kernel_rfl) (by kernel_rfl) (by intro _ _ _ h; exact h) (Or.inr ⟨by rfl, rfl⟩) hHeld ?_
        try simp only [Act.put, List.setIfInBounds_toArray, List.set_cons_zero, List.set_cons_succ]
        refine wpAnyH_take (i := 6) (v := undef) (by simp only [List.getElem?_toArray, List.getElem?_cons_succ, List.getElem?_cons_zero]; rfl) (by kernel_rfl) (by kernel_rfl) (by kernel_rfl) (by intro _ _ _ h; exact h) (Or.inr ⟨by rfl, rfl⟩) hHeld ?_
        try simp only [Act.put, List.setIfInBounds_toArray, List.set_cons_zero, List.set_cons_succ]
        refine wpAnyH_take (i := 7) (v := undef) (by simp only [List.getElem?_toArray, List.getElem?_cons_succ, List.getElem?_cons_zero]; rfl) (by kernel_rfl) (by kernel_rfl) (by kernel_rfl) (by intro _ _ _ h; exact h) (Or.inr ⟨by rfl, rfl⟩) hHeld ?_
        try simp only [Act.put, List.setIfInBounds_toArray, List.set_cons_zero, List.set_cons_succ]
        refine wpAnyH_take (i := 8) (v := undef) (by simp only [List.getElem?_toArray, List.getElem?_cons_succ, List.getElem?_cons_zero]; rfl) (by kernel_rfl) (by kernel_rfl) (by kernel_rfl) (by intro _ _ _ h; exact h) (Or.inr ⟨by rfl, rfl⟩) hHeld ?_
        try simp only [Act.put, List.setIfInBounds_toArray, List.set_cons_zero, List.set_cons_succ]
        refine wpAnyH_take (i := 9) (v := ?_) (by simp only [List.getElem?_toArray, List.getElem?_cons_succ, List.getElem?_cons_zero]; rfl) (by kernel_rfl) (by kernel_rfl) (by kernel_rfl) (by intro _ _ _ h; exact h) (Or.inl ⟨by rfl, ?_⟩) hHeld ?_
        rotate_left 1
        · intro wq hSw
          try dsimp only at hSw
          go_simp
          try (with_reducible rfl)
        try simp only [Act.put, List.setIfInBounds_toArray, List.set_cons_zero, List.set_cons_succ]
        refine wpAnyH_done (by kernel_rfl) ?_ _
        replace bb := bb.trans (hHeld.mono bb.size)
        have X := Xd
        have S1 := S1d
        have R := Rd
        clear Xd S1d Rd hHeld
        have hrd : extE.rd (fun z => w.heap.size ≤ z ∧ (Value.slice Ar 0 cr).ownBlock ≠ some z) wd [.int .i64 y.la, .int .i64 y.n, .int .i64 y.k, .int .i64 y.g, .slice A1 m1 c1] y := ⟨A1, c1, by rw [hm1l.out], by rw [← hm1l.out]; exact S1, fun _ ad ea => ⟨hA1 ad ea, hArA ad ea⟩⟩
        have a1 := (Below.refl wd.heap.size wd).alloc (Nat.le_refl _) (.cells #[.int .i64 y.la, .int .i64 y.n, .int .i64 y.k, .int .i64 y.g, .slice A1 m1 c1] 41)
        have Bs := Blk.new wd #[.int .i64 y.la, .int .i64 y.n, .int .i64 y.k, .int .i64 y.g, .slice A1 m1 c1] 41
        obtain ⟨x0', x1', x2', x3', x4', _⟩ := X.five
        replace R := R.under a1
        replace hrd := Elt.below hrd a1
        replace bb := bb.trans (a1.mono bb.size)
        obtain ⟨A5, c5, w9, hr, R5, gr, hlies⟩ := R.app (P := Try.prog) (T := 23) (ty := 23) Try.underlying23 hiX hzX hsX hbX rfl bb.size (by omega) (by omega) hrd (one_ext _ _ _ _ _ _ _) Bs
        have hro := R.lt
        have bb6 := bb.grown gr bb.size (fun z hz => (hro z hz).1)
        rw [hl1.out] at R5
        clear hro gr hrd Bs hlies R bb a1
        go_wp2_with (at_builtin; refine wpList_run rfl (.tmp 47) (.tmp 49) 23 rfl rfl rfl hr ?_; intro _)
        go_roundg q
        case measure => omega
        case rel => exact ⟨0 + 1, A5, _, c5, by omega, rfl, by first | rfl | (simp; done), by omega, R5, bb6⟩
      · skip
        obtain ⟨M, z, hM1, hM2⟩ := imap_snoc (l := xs.take k) (by intro e; rw [e] at htl; simp at htl; omega) x
        rw [← htk, htl, hy] at hM2
        rw [hM1] at R hpok
        have hnl := R.len
        have hn0 : 0 < nr := by rw [← hnl]; simp
        obtain ⟨p, hp⟩ : ∃ p, nr - 1 = p := ⟨_, rfl⟩
        have hp1 : (nr : Int) - 1 = (p : Int) := by omega
        have hpl : p < nr := by omega
        have hzp : (M ++ [z])[p]? = some z := by rw [List.length_append, List.length_singleton] at hnl; rw [List.getElem?_append_right (by omega), show p - M.length = 0 by omega]; rfl
        have hzo := hpok z (by simp)
        have hzla : z.la ≤ 9223372036854775807 := by have := Xp.all hzo; omega
        obtain ⟨gm, cur, rfl, hBg, hnc, hcb2, hsz, Bk, Ro0⟩ := R.openB hn0
        obtain ⟨Az, cz, z0, z1, z2, z3, z4, Sz, _⟩ := Ro.ext_at Ro0 hzp
        obtain ⟨mz, hmz⟩ : ∃ m, z.l.length = m := ⟨_, rfl⟩
        rw [hmz] at z4 Sz
        have hgl := Bk.lt
        have hgx : gm < kx := hkx gm rfl
        have hJ := fun W => eJoins_any z.la z.n z.k z.g Az mz cz y.la y.n y.k y.g A1 m1 c1 W hzla hyla
        rw [xjF_is hmz.symm hm1l.out] at hJ
        have hn64b : nr ≤ 64 := by omega
        replace hmz := Lib.hid hmz
        replace hM1 := Lib.hid hM1
        replace hM2 := Lib.hid hM2
        replace hp := Lib.hid hp
        replace hy := Lib.hid hy
        clear hpok htk htl hzp hnl
        go_wp2_with fail
        refine wp_region_held_drew (S := fun w' => Below w5.heap.size w5 w') (by kernel_rfl) (Below.refl _ _).drew (fun hHeld => ?_)
        try dsimp only at hHeld
        generalize w5.drew = wd at *
        try simp only [Act.put, List.setIfInBounds_toArray, List.set_cons_zero, List.set_cons_succ]
        refine wpAnyH_take (i := 0) (v := ?_) (by simp only [List.getElem?_toArray, List.getElem?_cons_zero]; rfl) (by kernel_rfl) (by kernel_rfl) (by kernel_rfl) (by intro _ _ _ h; exact h) (Or.inl ⟨by rfl, ?_⟩) hHeld ?_
        rotate_left 1
        · intro wq hSw
          try dsimp only at hSw
          go_simp
          try (with_reducible rfl)
        try simp only [Act.put, List.setIfInBounds_toArray, List.set_cons_zero, List.set_cons_succ]
        refine wpAnyH_take (i := 1) (v := (.bool true)) (by simp only [List.getElem?_toArray, List.getElem?_cons_succ, List.getElem?_cons_zero]; rfl) (by kernel_rfl) (by kernel_rfl) (by kernel_rfl) (by intro _ _ _ h; exact h) (Or.inl ⟨by rfl, ?_⟩) hHeld ?_
        · intro wq hSw
          try dsimp only at hSw
          go_simp
          try simp
        try simp only [Act.put, List.setIfInBounds_toArray, List.set_cons_zero, List.set_cons_succ]
        refine wpAnyH_take (i := 2) (v := ?_) (by simp only [List.getElem?_toArray, List.getElem?_cons_succ, List.getElem?_cons_zero]; rfl) (by kernel_rfl) (by kernel_rfl) (by kernel_rfl) (by intro _ _ _ h; exact h) (Or.inl ⟨by rfl, ?_⟩) hHeld ?_
        rotate_left 1
        · intro wq hSw
          try dsimp only at hSw
          go_simp
          try (with_reducible rfl)
        try simp only [Act.put, List.setIfInBounds_toArray, List.set_cons_zero, List.set_cons_succ]
        refine wpAnyH_take (i := 3) (v := ?_) (by simp only [List.getElem?_toArray, List.getElem?_cons_succ, List.getElem?_cons_zero]; rfl) (by kernel_rfl) (by kernel_rfl) (by kernel_rfl) (by intro _ _ _ h; exact h) (Or.inl ⟨by rfl, ?_⟩) hHeld ?_
        rotate_left 1
        · intro wq hSw
          try dsimp only at hSw
          go_simp
          try (with_reducible rfl)
        try simp only [Act.put, List.setIfInBounds_toArray, List.set_cons_zero, List.set_cons_succ]
        refine wpAnyH_take (i := 4) (v := ?_) (by simp only [List.getElem?_toArray, List.getElem?_cons_succ, List.getElem?_cons_zero]; rfl) (by kernel_rfl) (by kernel_rfl) (by kernel_rfl) (by intro _ _ _ h; exact h) (Or.inl ⟨by rfl, ?_⟩) hHeld ?_
        rotate_left 1
        · intro wq hSw
          try dsimp only at hSw
          go_simp
          try (with_reducible rfl)
        try simp only [Act.put, List.setIfInBounds_toArray, List.set_cons_zero, List.set_cons_succ]
        refine wpAnyH_take (i := 5) (v := ?_) (by simp only [List.getElem?_toArray, List.getElem?_cons_succ, List.getElem?_cons_zero]; rfl) (by kernel_rfl) (by kernel_rfl) (by kernel_rfl) (by intro _ _ _ h; exact h) (Or.inl ⟨by rfl, ?_⟩) hHeld ?_
        rotate_left 1
        · intro wq hSw
          try dsimp only at hSw
          go_simp
          try (with_reducible rfl)
        try simp only [Act.put, List.setIfInBounds_toArray, List.set_cons_zero, List.set_cons_succ]
        refine wpAnyH_take (i := 6) (v := ?_) (by simp only [List.getElem?_toArray, List.getElem?_cons_succ, List.getElem?_cons_zero]; rfl) (by kernel_rfl) (by kernel_rfl) (by kernel_rfl) (by intro _ _ _ h; exact h) (Or.inl ⟨by rfl, ?_⟩) hHeld ?_
        rotate_left 1
        · intro wq hSw
          try dsimp only at hSw
          have y0 := (hSw.cell (p := ⟨gm, p * 5, none⟩) hgl).trans z0
          have y1 := (hSw.cell (p := ⟨gm, p * 5 + 1, none⟩) hgl).trans z1
          have y2 := (hSw.cell (p := ⟨gm, p * 5 + 2, none⟩) hgl).trans z2
          have y3 := (hSw.cell (p := ⟨gm, p * 5 + 3, none⟩) hgl).trans z3
          have y4 := (hSw.cell (p := ⟨gm, p * 5 + 4, none⟩) hgl).trans z4
          go_simp
          try (with_reducible rfl)
        try simp only [Act.put, List.setIfInBounds_toArray, List.set_cons_zero, List.set_cons_succ]
        refine wpAnyH_take (i := 7) (v := ?_) (by simp only [List.getElem?_toArray, List.getElem?_cons_succ, List.getElem?_cons_zero]; rfl) (by kernel_rfl) (by kernel_rfl) (by kernel_rfl) (by intro _ _ _ h; exact h) (Or.inl ⟨by rfl, ?_⟩) hHeld ?_
        rotate_left 1
        · intro wq hSw
          try dsimp only at hSw
          obtain ⟨q0, q1, q2', q3, q4, _⟩ := (X.under hSw).five
          go_simp
          try (with_reducible rfl)
        try simp only [Act.put, List.setIfInBounds_toArray, List.set_cons_zero, List.set_cons_succ]
        refine wpAnyH_ready (rs := [8]) (by kernel_rfl) (by simp) ?_
        refine AllReadyH.cons (by simp only [List.getElem?_toArray, List.getElem?_cons_succ, List.getElem?_cons_zero]; rfl) (fun K hK => ?_) AllReadyH.nil
        go_simp
        refine (hJ wd).mono ?_
        clear hJ
        rintro e w6 ⟨rfl, b6⟩
        have bN := hHeld.trans (b6.mono hHeld.size)
        go_wp2_with fail
        refine hK.out _ _ (bN) (fun hHeld => ?_)
        clear hK K
        try dsimp only at hHeld
        clear b6 bN
        try simp only [Act.put, List.setIfInBounds_toArray, List.set_cons_zero, List.set_cons_succ]
        refine wpAnyH_take (i := 9) (v := ?_) (by simp only [List.getElem?_toArray, List.getElem?_cons_succ, List.getElem?_cons_zero]; rfl) (by kernel_rfl) (by kernel_rfl) (by kernel_rfl) (by intro _ _ _ h; exact h) (Or.inl ⟨by rfl, ?_⟩) hHeld ?_
        rotate_left 1
        · intro wq hSw
          try dsimp only at hSw
          go_simp
          try (with_reducible rfl)
        try simp only [Act.put, List.setIfInBounds_toArray, List.set_cons_zero, List.set_cons_succ]
        refine wpAnyH_done (by kernel_rfl) ?_ _
        have h56 := hHeld
        replace bb := bb.trans (h56.mono bb.size)
        have X6 := X.under h56
        have S6 := S1.below h56
        have R6 := R.under h56
        clear hHeld X S1 R z0 z1 z2 z3 z4 Bk Ro0 hsz
        have X := X6
        have S1 := S6
        have R := R6
        clear X6 S6 R6 h56
        cases hj : xjoins z y
        · have hl1 : (M ++ [z]) ++ [y] = imap (xs.take (k + 1)) := by rw [hM2.out, hj]; rfl
          replace hl1 := Lib.hid hl1
          clear hzla hzo hnc hcb2 hpl hp1 Sz hgl hgx
          have hrd : extE.rd (fun z => w.heap.size ≤ z ∧ (Value.slice (some ⟨gm, 0, none⟩) nr cr).ownBlock ≠ some z) w6 [.int .i64 y.la, .int .i64 y.n, .int .i64 y.k, .int .i64 y.g, .slice A1 m1 c1] y := ⟨A1, c1, by rw [hm1l.out], by rw [← hm1l.out]; exact S1, fun _ ad ea => ⟨hA1 ad ea, hArA ad ea⟩⟩
          have a1 := (Below.refl w6.heap.size w6).alloc (Nat.le_refl _) (.cells #[.int .i64 y.la, .int .i64 y.n, .int .i64 y.k, .int .i64 y.g, .slice A1 m1 c1] 41)
          have Bs := Blk.new w6 #[.int .i64 y.la, .int .i64 y.n, .int .i64 y.k, .int .i64 y.g, .slice A1 m1 c1] 41
          obtain ⟨x0', x1', x2', x3', x4', _⟩ := X.five
          replace R := R.under a1
          replace hrd := Elt.below hrd a1
          replace bb := bb.trans (a1.mono bb.size)
          obtain ⟨A5, c5, w9, hr, R5, gr, hlies⟩ := R.app (P := Try.prog) (T := 23) (ty := 23) Try.underlying23 hiX hzX hsX hbX rfl bb.size (by omega) (by omega) hrd (one_ext _ _ _ _ _ _ _) Bs
          have hro := R.lt
          have bb6 := bb.grown gr bb.size (fun z hz => (hro z hz).1)
          rw [hl1.out] at R5
          clear hro gr hrd Bs hlies R bb a1
          go_wp2_with (at_builtin; refine wpList_run rfl (.tmp 47) (.tmp 49) 23 rfl rfl rfl hr ?_; intro _)
          go_roundg q
          case measure => omega
          case rel => exact ⟨k + 1, A5, _, c5, by omega, rfl, by first | rfl | (simp; done) | (simp; exact wrap64_small (by omega) (by omega)), by omega, R5, bb6⟩
        · obtain ⟨u, hu⟩ : ∃ u, xboth z y = u := ⟨_, rfl⟩
          have hl1 : M ++ [u] = imap (xs.take (k + 1)) := by rw [hM2.out, hj, ← hu]; rfl
          replace hl1 := Lib.hid hl1
          have hxj : xjoin z y = some u := by unfold xjoin; rw [hj, ← hu]; rfl
          replace hu := Lib.hid hu
          have hnl := R.len
          have hset : (M ++ [z]).set p u = M ++ [u] := by rw [List.length_append, List.length_singleton] at hnl; have := hp.out; rw [List.set_append_right _ _ (by omega), show p - M.length = 0 by omega]; rfl
          have hpm : p < (M ++ [z]).length := by rw [hnl]; exact hpl
          have hzp : (M ++ [z])[p]? = some z := by rw [List.length_append, List.length_singleton] at hnl; have := hp.out; rw [List.getElem?_append_right (by omega), show p - M.length = 0 by omega]; rfl
          obtain ⟨gm', cur, eg, hBg', hnc', hcb', hsz, Bk, Ro0⟩ := R.openB hn0
          cases eg
          obtain ⟨Az', cz', z0, z1, z2, z3, z4, Sz', hAz⟩ := Ro.ext_at Ro0 hzp
          rw [hmz.out] at z4 Sz'
          have hJn := fun W s1 s2 => eJoin_ok z.la z.n z.k z.g Az' mz cz' z.l y.la y.n y.k y.g A1 m1 c1 y.l W hzla hyla s1 s2 hxj
          have hgl' := Bk.lt
          have hXg : kx ≠ gm := by omega
          replace hset := Lib.hid hset
          replace hzp := Lib.hid hzp
          replace hpm := Lib.hid hpm
          clear hnl hxj
          go_wp2_with fail
          refine wp_region_held_drew (S := fun w' => But gm w6 w') (by kernel_rfl) (But.refl _ _).drew (fun hHeld => ?_)
          try dsimp only at hHeld
          have Bkd := Bk.drew
          have Rod := Ro0.drew
          have Szd := Sz'.drew
          have S1d := S1.drew
          have bbd := bb.trans ((Below.refl w6.heap.size w6).drew.mono bb.size)
          have hsd : w.heap.size ≤ w6.drew.heap.size := bb.size
          have hsd2 : gm < w6.drew.heap.size := hgl'
          have y0 : w6.drew.cell? _ = _ := z0
          have y1 : w6.drew.cell? _ = _ := z1
          have y2 : w6.drew.cell? _ = _ := z2
          have y3 : w6.drew.cell? _ = _ := z3
          have y4 : w6.drew.cell? _ = _ := z4
          generalize w6.drew = wd at *
          try simp only [Act.put, List.setIfInBounds_toArray, List.set_cons_zero, List.set_cons_succ]
          refine wpAnyH_take (i := 0) (v := ?_) (by simp only [List.getElem?_toArray, List.getElem?_cons_zero]; rfl) (by kernel_rfl) (by kernel_rfl) (by kernel_rfl) (by intro _ _ _ h; exact h) (Or.inl ⟨by rfl, ?_⟩) hHeld ?_
          rotate_left 1
          · intro wq hSw
            try dsimp only at hSw
            go_simp
            try (with_reducible rfl)
          try simp only [Act.put, List.setIfInBounds_toArray, List.set_cons_zero, List.set_cons_succ]
          refine wpAnyH_take (i := 1) (v := ?_) (by simp only [List.getElem?_toArray, List.getElem?_cons_succ, List.getElem?_cons_zero]; rfl) (by kernel_rfl) (by kernel_rfl) (by kernel_rfl) (by intro _ _ _ h; exact h) (Or.inl ⟨by rfl, ?_⟩) hHeld ?_
          rotate_left 1
          · intro wq hSw
            try dsimp only at hSw
            go_simp
            try (with_reducible rfl)
          try simp only [Act.put, List.setIfInBounds_toArray, List.set_cons_zero, List.set_cons_succ]
          refine wpAnyH_take (i := 2) (v := ?_) (by simp only [List.getElem?_toArray, List.getElem?_cons_succ, List.getElem?_cons_zero]; rfl) (by kernel_rfl) (by kernel_rfl) (by kernel_rfl) (by intro _ _ _ h; exact h) (Or.inl ⟨by rfl, ?_⟩) hHeld ?_
          rotate_left 1
          · intro wq hSw
            try dsimp only at hSw
            go_simp
            try (with_reducible rfl)
          try simp only [Act.put, List.setIfInBounds_toArray, List.set_cons_zero, List.set_cons_succ]
          refine wpAnyH_take (i := 3) (v := ?_) (by simp only [List.getElem?_toArray, List.getElem?_cons_succ, List.getElem?_cons_zero]; rfl) (by kernel_rfl) (by kernel_rfl) (by kernel_rfl) (by intro _ _ _ h; exact h) (Or.inl ⟨by rfl, ?_⟩) hHeld ?_
          rotate_left 1
          · intro wq hSw
            try dsimp only at hSw
            go_simp
            try (with_reducible rfl)
          try simp only [Act.put, List.setIfInBounds_toArray, List.set_cons_zero, List.set_cons_succ]
          refine wpAnyH_take (i := 4) (v := ?_) (by simp only [List.getElem?_toArray, List.getElem?_cons_succ, List.getElem?_cons_zero]; rfl) (by kernel_rfl) (by kernel_rfl) (by kernel_rfl) (by intro _ _ _ h; exact h) (Or.inl ⟨by rfl, ?_⟩) hHeld ?_
          rotate_left 1
          · intro wq hSw
            try dsimp only at hSw
            go_simp
            try (with_reducible rfl)
          try simp only [Act.put, List.setIfInBounds_toArray, List.set_cons_zero, List.set_cons_succ]
          refine wpAnyH_take (i := 6) (v := ?_) (by simp only [List.getElem?_toArray, List.getElem?_cons_succ, List.getElem?_cons_zero]; rfl) (by kernel_rfl) (by kernel_rfl) (by kernel_rfl) (by intro _ _ _ h; exact h) (Or.inl ⟨by rfl, ?_⟩) hHeld ?_
          rotate_left 1
          · intro wq hSw
            try dsimp only at hSw
            obtain ⟨q0, q1, q2', q3, q4, _⟩ := (X.but hSw hXg).five
            go_simp
            try (with_reducible rfl)
          try simp only [Act.put, List.setIfInBounds_toArray, List.set_cons_zero, List.set_cons_succ]
          refine wpAnyH_ready (rs := [5]) (by kernel_rfl) (by simp) ?_
          refine AllReadyH.cons (by simp only [List.getElem?_toArray, List.getElem?_cons_succ, List.getElem?_cons_zero]; rfl) (fun K hK => ?_) AllReadyH.nil
          go_simp
          refine hK.out _ _ (hHeld) (fun hHeld => ?_)
          clear hK K
          try dsimp only at hHeld
          try simp only [Act.put, List.setIfInBounds_toArray, List.set_cons_zero, List.set_cons_succ]
          refine wpAnyH_ready (rs := [7]) (by kernel_rfl) (by simp) ?_
          refine AllReadyH.cons (by simp only [List.getElem?_toArray, List.getElem?_cons_succ, List.getElem?_cons_zero]; rfl) (fun K hK => ?_) AllReadyH.nil
          go_simp
          refine (hJn wd Szd S1d).mono ?_
          clear hJn
          rintro e w7 ⟨A7, m7, c7, hm7, rfl, N7, b7⟩
          have bN := hHeld.below2 b7
          have Bk7 := Bkd.under b7
          have Ro7 := Ro.under Rod b7
          have S7 := Sl.of_own N7
          have hA7 : ∀ ad, A7 = some ad → w.heap.size ≤ ad.block ∧ ad.block ≠ gm := fun ad ea => by have h1 := N7.fr ad ea; exact ⟨by omega, by omega⟩
          have bb7 := bbd.trans (b7.mono hsd)
          clear N7
          go_wp2_with fail
          refine hK.out _ _ (bN) (fun hHeld => ?_)
          clear hK K
          try dsimp only at hHeld
          clear bN b7
          try simp only [Act.put, List.setIfInBounds_toArray, List.set_cons_zero, List.set_cons_succ]
          refine wpAnyH_take (i := 8) (v := ?_) (by simp only [List.getElem?_toArray, List.getElem?_cons_succ, List.getElem?_cons_zero]; rfl) (by kernel_rfl) (by kernel_rfl) (by kernel_rfl) (by intro _ _ _ h; exact h) (Or.inl ⟨by rfl, ?_⟩) hHeld ?_
          rotate_left 1
          · intro wq hSw
            try dsimp only at hSw
            go_simp
            try (with_reducible rfl)
          try simp only [Act.put, List.setIfInBounds_toArray, List.set_cons_zero, List.set_cons_succ]
          refine wpAnyH_take (i := 9) (v := ?_) (by simp only [List.getElem?_toArray, List.getElem?_cons_succ, List.getElem?_cons_zero]; rfl) (by kernel_rfl) (by kernel_rfl) (by kernel_rfl) (by intro _ _ _ h; exact h) (Or.inl ⟨by rfl, ?_⟩) hHeld ?_
          rotate_left 1
          · intro wq hSw
            try dsimp only at hSw
            go_simp
            try (with_reducible rfl)
          try simp only [Act.put, List.setIfInBounds_toArray, List.set_cons_zero, List.set_cons_succ]
          refine wpAnyH_take (i := 10) (v := ?_) (by simp only [List.getElem?_toArray, List.getElem?_cons_succ, List.getElem?_cons_zero]; rfl) (by kernel_rfl) (by kernel_rfl) (by kernel_rfl) (by intro _ _ _ h; exact h) (Or.inl ⟨by rfl, ?_⟩) hHeld ?_
          rotate_left 1
          · intro wq hSw
            try dsimp only at hSw
            go_simp
            try (with_reducible rfl)
          try simp only [Act.put, List.setIfInBounds_toArray, List.set_cons_zero, List.set_cons_succ]
          refine wpAnyH_take (i := 11) (v := ?_) (by simp only [List.getElem?_toArray, List.getElem?_cons_succ, List.getElem?_cons_zero]; rfl) (by kernel_rfl) (by kernel_rfl) (by kernel_rfl) (by intro _ _ _ h; exact h) (Or.inl ⟨by rfl, ?_⟩) hHeld ?_
          rotate_left 1
          · intro wq hSw
            try dsimp only at hSw
            go_simp
            try (with_reducible rfl)
          try simp only [Act.put, List.setIfInBounds_toArray, List.set_cons_zero, List.set_cons_succ]
          refine wpAnyH_ready (rs := [12]) (by kernel_rfl) (by simp) ?_
          refine AllReadyH.cons (by simp only [List.getElem?_toArray, List.getElem?_cons_succ, List.getElem?_cons_zero]; rfl) (fun K hK => ?_) AllReadyH.nil
          have hfit : p * 5 + 5 ≤ cur.size := by have e5 : extE.k = 5 := rfl; rw [e5] at hsz; omega
          refine (if_pos (by rfl)).mpr (wp_storeL Bk7 41 (.tmp 46) (.tmp 44) rfl (p := p * 5) (vs := [.int .i64 u.la, .int .i64 u.n, .int .i64 u.k, .int .i64 u.g, .slice A7 m7 c7]) rfl rfl hfit (one_ext _ _ _ _ _ _ _) (by kernel_rfl) ?_)
          have R8 := Ro7.set (i := p) hpm.out (y := u) (vs := [.int .i64 u.la, .int .i64 u.n, .int .i64 u.k, .int .i64 u.g, .slice A7 m7 c7]) ⟨A7, c7, by rw [hm7.out], by rw [← hm7.out]; exact S7, fun _ ad ea => hA7 ad ea⟩
          rw [hset.out, show extE.k = 5 from rfl] at R8
          have bN := hHeld.then (setL_but w7 gm (p * 5) [.int .i64 u.la, .int .i64 u.n, .int .i64 u.k, .int .i64 u.g, .slice A7 m7 c7])
          have bb8 := setL_below hBg [.int .i64 u.la, .int .i64 u.n, .int .i64 u.k, .int .i64 u.g, .slice A7 m7 c7] (p * 5) bb7
          obtain ⟨cur8, hs8, Bk8⟩ := setL_blk (p * 5) [.int .i64 u.la, .int .i64 u.n, .int .i64 u.k, .int .i64 u.g, .slice A7 m7 c7] Bk7
          refine hK.out _ _ (bN) (fun hHeld => ?_)
          clear hK K
          try dsimp only at hHeld
          clear bN
          try simp only [Act.put, List.setIfInBounds_toArray, List.set_cons_zero, List.set_cons_succ]
          refine wpAnyH_done (by kernel_rfl) ?_ _
          have R9 := rq_of_ro (n := nr) (c := cr) R8 hBg Bk8 (by rw [hs8]; exact hsz) (by rw [← hset.out, List.length_set]; exact R.len) hnc' hcb'
          rw [hl1.out] at R9
          have e8 : setL w7 gm (p * 5) [.int .i64 u.la, .int .i64 u.n, .int .i64 u.k, .int .i64 u.g, .slice A7 m7 c7] = setL w7 gm (p * 5) [.int .i64 u.la, .int .i64 u.n, .int .i64 u.k, .int .i64 u.g, .slice A7 m7 c7] := rfl
          generalize setL w7 gm (p * 5) [.int .i64 u.la, .int .i64 u.n, .int .i64 u.k, .int .i64 u.g, .slice A7 m7 c7] = w8 at *
          clear e8 R8 Bk8 hHeld
          go_wp2
          go_roundg q
          case measure => omega
          case rel => exact ⟨k + 1, _, nr, cr, by omega, rfl, by first | rfl | (simp; done) | (simp; exact wrap64_small (by omega) (by omega)), by omega, R9, bb8⟩
    · obtain rfl : k = n := by omega
      rw [List.take_of_length_le (Nat.le_of_eq HN.out)] at R
      have hl := R.len
      have RS := R.toRs (fun z _ hz => hz)
      replace hl := Lib.hid hl
      go_wp2
      go_ret2
      exact ⟨Ar, nr, cr, hl, rfl, RS, bb⟩
end Go.Proofs.Ytagageidiebogaa

/-
  Contracts of image.Alike and of the document's Same of blocks (written by gen_im10.py).
-/
namespace Go.Proofs.Ytagageidiebogaa
open Go.RowKit Go.Wag
set_option linter.unusedVariables false
set_option linter.unusedSimpArgs false
set_option maxRecDepth 20000
theorem guardC : Try.prog.eqGuardType Try.prog.depth 46 = false := by kernel_rfl
theorem cellsC : Try.prog.cellsOf 46 = 34 := by kernel_rfl
theorem lits_cp {x : Cp} (h : x.wf) : ∃ L, Try.prog.keyLits 3 46 (cpV x) = some L := by
  have c1 : Try.prog.cellsOf 3 = 1 := by kernel_rfl
  have c2 : Try.prog.cellsOf 44 = 32 := by kernel_rfl
  have e1 : Try.prog.keyLits 2 3 [.int .i64 x.k] = some [.int .i64 x.k] := by
    unfold Program.keyLits
    simp only [Try.underlying3]
    rw [if_pos ⟨trivial, h.k⟩]
  have e2 : Try.prog.keyLits 2 3 [.int .i64 x.g] = some [.int .i64 x.g] := by
    unfold Program.keyLits
    simp only [Try.underlying3]
    rw [if_pos ⟨trivial, h.g⟩]
  have e3 : Try.prog.keyLits 2 44 (x.d.map v8) = some (x.d.map litB) := arr_lits (d := 0) Try.underlying44 Try.underlying5 (by kernel_rfl) (by kernel_rfl) h.len
  have e3' : (x.d.map v8).take 32 = x.d.map v8 := List.take_of_length_le (by rw [List.length_map, h.len]; exact Nat.le_refl _)
  refine ⟨[[Lit.int .i64 x.k], [Lit.int .i64 x.g], x.d.map litB].flatten, ?_⟩
  unfold Program.keyLits
  simp only [Try.underlying46]
  rw [if_pos ⟨by rw [cpV_len h.len, cellsC], by kernel_rfl⟩]
  simp only [List.mapM_cons, List.mapM_nil, cpV, c1, c2, List.drop_zero, List.take_succ_cons, List.take_zero, List.drop_succ_cons, e1, e2, e3, e3']
  rfl
theorem eqC_self {x : Cp} (h : x.wf) (w : World) : (Op.equalIn 10000 46 (.agg (cpA x)) (.agg (cpA x))).run Try.prog w = .ok true w := by
  obtain ⟨L, hL⟩ := lits_cp h
  have f : (Value.agg (cpA x)).formed Try.prog 46 = true := by
    simp [Value.formed, cpA, Try.underlying46, cellsC, cpV_len h.len]
  obtain ⟨r, hr, hi⟩ := run_equalIn_deep (P := Try.prog) 9997 3 46 (by kernel_rfl) w 3 3 _ _ _ _ f f hL hL
  rw [hr, hi.2 rfl]
set_option maxHeartbeats 2000000 in
theorem cSame_any {F F2 : Nat → Prop} (xs : List Cp) (A : Option Addr) (n c : Nat) (A2 : Option Addr) (c2 : Nat) (w : World) (h : Rs cpE F w A n c xs) (h2 : Rs cpE F2 w A2 n c2 xs) :
    Calls Try.prog 10 #[.slice A n c, .slice A2 n c2] w fun e w' => e = .returned (.bool true) ∧ Below w.heap.size w w' := by
  have hcap := h.cap
  have hbig := h.big
  have hne : ((n : Int) != (n : Int)) = false := by simp
  go_enter Try.func10, Try.ntmps10
  go_wp2_with fail
  go_loopg [5] n (fun q i wr => Below w.heap.size w wr ∧ ∃ k : Nat, k + q = n ∧ i = .int .i64 (k : Int))
  case atStart => exact ⟨Below.refl _ _, 0, by omega, rfl⟩
  case round =>
    obtain ⟨bb, k, hk, rfl⟩ := hrel
    by_cases hlt : (k : Int) < (n : Int)
    · obtain ⟨q, rfl⟩ : ∃ q, gk = q + 1 := ⟨gk - 1, by omega⟩
      obtain ⟨g1, o1, x, rfl, _, hg1, hz1, C1⟩ := h.cp_at (show k < n by omega)
      obtain ⟨g2, o2, x2, rfl, _, hg2, hz2, C2⟩ := h2.cp_at (show k < n by omega)
      obtain rfl : x = x2 := Option.some.inj (hz1.symm.trans hz2)
      have hE := eqC_self C1.1
      have hG := guardC
      go_wp2_with fail
      refine wp_region_held_drew (S := fun w' => Below wr.heap.size wr w') (by kernel_rfl) (Below.refl _ _).drew (fun hHeld => ?_)
      try dsimp only at hHeld
      generalize wr.drew = wd at *
      try simp only [Act.put, List.setIfInBounds_toArray, List.set_cons_zero, List.set_cons_succ]
      refine wpAnyH_take (i := 0) (v := ?_) (by simp only [List.getElem?_toArray, List.getElem?_cons_zero]; rfl) (by kernel_rfl) (by kernel_rfl) (by kernel_rfl) (by intro _ _ _ h; exact h) (Or.inl ⟨by rfl, ?_⟩) hHeld ?_
      rotate_left 1
      · intro wq hSw
        try dsimp only at hSw
        go_simp
        try (with_reducible rfl)
      try simp only [Act.put, List.setIfInBounds_toArray, List.set_cons_zero, List.set_cons_succ]
      refine wpAnyH_take (i := 1) (v := ?_) (by simp only [List.getElem?_toArray, List.getElem?_cons_succ, List.getElem?_cons_zero]; rfl) (by kernel_rfl) (by kernel_rfl) (by kernel_rfl) (by intro _ _ _ h; exact h) (Or.inl ⟨by rfl, ?_⟩) hHeld ?_
      rotate_left 1
      · intro wq hSw
        try dsimp only at hSw
        go_simp
        try (with_reducible rfl)
      try simp only [Act.put, List.setIfInBounds_toArray, List.set_cons_zero, List.set_cons_succ]
      refine wpAnyH_take (i := 2) (v := ?_) (by simp only [List.getElem?_toArray, List.getElem?_cons_succ, List.getElem?_cons_zero]; rfl) (by kernel_rfl) (by kernel_rfl) (by kernel_rfl) (by intro _ _ _ h; exact h) (Or.inl ⟨by rfl, ?_⟩) hHeld ?_
      rotate_left 1
      · intro wq hSw
        try dsimp only at hSw
        go_simp
        try (with_reducible rfl)
      try simp only [Act.put, List.setIfInBounds_toArray, List.set_cons_zero, List.set_cons_succ]
      refine wpAnyH_take (i := 3) (v := (.agg (cpA x))) (by simp only [List.getElem?_toArray, List.getElem?_cons_succ, List.getElem?_cons_zero]; rfl) (by kernel_rfl) (by kernel_rfl) (by kernel_rfl) (by intro _ _ _ h; exact h) (Or.inl ⟨by rfl, ?_⟩) hHeld ?_
      · intro wq hSw
        try dsimp only at hSw
        exact exec_loadC 46 (.tmp 19) rfl rfl (C1.below (bb.trans (hSw.mono bb.size)) hg1) Try.underlying46 szC
      try simp only [Act.put, List.setIfInBounds_toArray, List.set_cons_zero, List.set_cons_succ]
      refine wpAnyH_take (i := 4) (v := ?_) (by simp only [List.getElem?_toArray, List.getElem?_cons_succ, List.getElem?_cons_zero]; rfl) (by kernel_rfl) (by kernel_rfl) (by kernel_rfl) (by intro _ _ _ h; exact h) (Or.inl ⟨by rfl, ?_⟩) hHeld ?_
      rotate_left 1
      · intro wq hSw
        try dsimp only at hSw
        go_simp
        try (with_reducible rfl)
      try simp only [Act.put, List.setIfInBounds_toArray, List.set_cons_zero, List.set_cons_succ]
      refine wpAnyH_take (i := 5) (v := ?_) (by simp only [List.getElem?_toArray, List.getElem?_cons_succ, List.getElem?_cons_zero]; rfl) (by kernel_rfl) (by kernel_rfl) (by kernel_rfl) (by intro _ _ _ h; exact h) (Or.inl ⟨by rfl, ?_⟩) hHeld ?_
      rotate_left 1
      · intro wq hSw
        try dsimp only at hSw
        go_simp
        try (with_reducible rfl)
      try simp only [Act.put, List.setIfInBounds_toArray, List.set_cons_zero, List.set_cons_succ]
      refine wpAnyH_take (i := 6) (v := ?_) (by simp only [List.getElem?_toArray, List.getElem?_cons_succ, List.getElem?_cons_zero]; rfl) (by kernel_rfl) (by kernel_rfl) (by kernel_rfl) (by intro _ _ _ h; exact h) (Or.inl ⟨by rfl, ?_⟩) hHeld ?_
      rotate_left 1
      · intro wq hSw
        try dsimp only at hSw
        go_simp
        try (with_reducible rfl)
      try simp only [Act.put, List.setIfInBounds_toArray, List.set_cons_zero, List.set_cons_succ]
      refine wpAnyH_take (i := 7) (v := (.agg (cpA x))) (by simp only [List.getElem?_toArray, List.getElem?_cons_succ, List.getElem?_cons_zero]; rfl) (by kernel_rfl) (by kernel_rfl) (by kernel_rfl) (by intro _ _ _ h; exact h) (Or.inl ⟨by rfl, ?_⟩) hHeld ?_
      · intro wq hSw
        try dsimp only at hSw
        exact exec_loadC 46 (.tmp 23) rfl rfl (C2.below (bb.trans (hSw.mono bb.size)) hg2) Try.underlying46 szC
      try simp only [Act.put, List.setIfInBounds_toArray, List.set_cons_zero, List.set_cons_succ]
      refine wpAnyH_take (i := 8) (v := (.bool false)) (by simp only [List.getElem?_toArray, List.getElem?_cons_succ, List.getElem?_cons_zero]; rfl) (by kernel_rfl) (by kernel_rfl) (by kernel_rfl) (by intro _ _ _ h; exact h) (Or.inl ⟨by rfl, ?_⟩) hHeld ?_
      · intro wq hSw
        try dsimp only at hSw
        go_simp
        try rfl
      try simp only [Act.put, List.setIfInBounds_toArray, List.set_cons_zero, List.set_cons_succ]
      refine wpAnyH_done (by kernel_rfl) ?_ _
      replace bb := bb.trans (hHeld.mono bb.size)
      clear hHeld
      go_wp2
      go_roundg q
      case measure => omega
      case rel => exact ⟨bb, k + 1, by omega, by first | rfl | (simp; done) | (simp; exact wrap64_small (by omega) (by omega))⟩
    · obtain rfl : k = n := by omega
      go_wp2
      go_ret
      exact ⟨rfl, bb⟩
set_option maxHeartbeats 2000000 in
theorem iAlike1_any (x y : Cp) (w : World) (hx : x.wf) (hy : y.wf) :
    Calls Try.prog 31 #[.agg (cpA x), .agg (cpA y)] w fun e w' => e = .returned (.bool (decide (x.k = y.k ∧ x.d = y.d))) ∧ Below w.heap.size w w' := by
  have V1 := (Blk.new w (cpA x) 46).alloc (.cells (cpA y) 46)
  have V2 := Blk.new (w.alloc (.cells (cpA x) 46)) (cpA y) 46
  have bb := ((Below.refl w.heap.size w).alloc (Nat.le_refl _) (.cells (cpA x) 46)).alloc (by simp) (.cells (cpA y) 46)
  simp only [World.size_alloc] at V2
  have hE := eqD hx.len hy.len
  have hG := guardD
  by_cases hk : x.k = y.k
  · have kb : (x.k == y.k) = true := by simp [hk]
    rw [show decide (x.k = y.k ∧ x.d = y.d) = decide (x.d = y.d) by simp [hk]]
    go_enter Try.func31, Try.ntmps31
    go_upto_region 1 with (fail)
    generalize (w.alloc (.cells (cpA x) 46)).alloc (.cells (cpA y) 46) = w1 at *
    obtain ⟨k0, hk0⟩ : ∃ k, w.heap.size = k := ⟨_, rfl⟩
    simp only [hk0] at V1 V2 ⊢
    obtain ⟨k1, hk1⟩ : ∃ k, k0 + 1 = k := ⟨_, rfl⟩
    simp only [hk1] at V2 ⊢
    have C1 := V1.cs hx
    have C2 := V2.cs hy
    have v1 := C1.kind
    have v2 := C2.kind
    rw [hk] at v1
    have kb2 : (y.k == y.k) = true := by simp
    replace hk := Lib.hid hk
    clear kb
    go_wp2_with (first | ((with_reducible refine wpList_at 11 rfl ?_ (.pointer (some ⟨k0, 2, none⟩)) ?_ ?_); (· rfl); (· go_simp)) | ((with_reducible refine wpList_loadDV ?_ 44 (.tmp 11) rfl ?_ C1 Try.underlying44 szD ?_); (· rfl); (· rfl)) | ((with_reducible refine wpList_at 13 rfl ?_ (.pointer (some ⟨k1, 2, none⟩)) ?_ ?_); (· rfl); (· go_simp)) | ((with_reducible refine wpList_loadDV ?_ 44 (.tmp 13) rfl ?_ C2 Try.underlying44 szD ?_); (· rfl); (· rfl)))
    go_ret
    exact ⟨rfl, bb⟩
  · have kb : (x.k == y.k) = false := by simp [hk]
    rw [show decide (x.k = y.k ∧ x.d = y.d) = false by simp [hk]]
    go_enter Try.func31, Try.ntmps31
    go_upto_region 1 with (fail)
    generalize (w.alloc (.cells (cpA x) 46)).alloc (.cells (cpA y) 46) = w1 at *
    obtain ⟨k0, hk0⟩ : ∃ k, w.heap.size = k := ⟨_, rfl⟩
    simp only [hk0] at V1 V2 ⊢
    obtain ⟨k1, hk1⟩ : ∃ k, k0 + 1 = k := ⟨_, rfl⟩
    simp only [hk1] at V2 ⊢
    have v1 := (V1.cs hx).kind
    have v2 := (V2.cs hy).kind
    go_wp2
    go_ret
    exact ⟨rfl, bb⟩
set_option maxHeartbeats 4000000 in
theorem iEqF_any {F F2 : Nat → Prop} (xs ys : List Cp) (A : Option Addr) (n c : Nat) (A2 : Option Addr) (n2 c2 : Nat) (w : World) (h : Rs cpE F w A n c xs) (h2 : Rs cpE F2 w A2 n2 c2 ys) :
    Calls Try.prog 30 #[.slice A n c, .slice A2 n2 c2, .func (.func 31) #[] #[]] w fun e w' => e = .returned (.bool (alikeF xs ys)) ∧ Below w.heap.size w w' := by
  have HN : Hid (xs.length = n) := h.len
  have HN2 : Hid (ys.length = n2) := h2.len
  have hcap := h.cap
  have hbig := h.big
  have hcap2 := h2.cap
  have hbig2 := h2.big
  have hent : ∀ u v w, (callFunc 31 #[u, v]).run Try.prog w = .ok (.enter 31 #[u, v]) w := fun _ _ _ => by rfl
  by_cases hnn : n = n2
  · subst hnn
    have hne : ((n : Int) != (n : Int)) = false := by simp
    go_enter Try.func30, Try.ntmps30
    go_wp2_with fail
    go_loopg [17] n (fun q i wr => ∃ k : Nat, k + q = n ∧ i = .int .i64 (k : Int) ∧ Hid (∀ (j : Nat) (x y : Cp), j < k → xs[j]? = some x → ys[j]? = some y → x.k = y.k ∧ x.d = y.d) ∧ Below w.heap.size w wr)
    case atStart => exact ⟨0, by omega, rfl, fun j x y hj => absurd hj (by omega), Below.refl _ _⟩
    case round =>
      obtain ⟨k, hk, rfl, hall, bb⟩ := hrel
      by_cases hlt : (k : Int) < (n : Int)
      · obtain ⟨q, rfl⟩ : ∃ q, gk = q + 1 := ⟨gk - 1, by omega⟩
        obtain ⟨g1, o1, x, rfl, _, hg1, hz1, D1⟩ := h.cp_at (show k < n by omega)
        obtain ⟨g2, o2, y, rfl, _, hg2, hz2, D2⟩ := h2.cp_at (show k < n by omega)
        have C1 := D1.below bb hg1
        have hxw := C1.1.len
        have hyw := D2.1.len
        have hxwf := C1.1
        have hywf := D2.1
        go_upto_region 6 with (first | with_reducible refine wpList_loadCP rfl 46 (.tmp 20) rfl rfl C1 Try.underlying46 szC ?_ | with_reducible refine wpList_new rfl 46 rfl (cpA c0p) 46 allocC ?_ | with_reducible refine wpList_varC rfl 46 (.tmp 8) (.tmp 21) rfl (Blk.new wr (cpA c0p) 46) rfl hxw rfl rfl szC ?_)
        try simp only [Act.put, List.setIfInBounds_toArray, List.set_cons_zero, List.set_cons_succ]
        simp only [setRow_new]
        have V1 := Blk.new wr (cpA x) 46
        replace bb := bb.alloc bb.size (.cells (cpA x) 46)
        have C2 := D2.below bb hg2
        clear C1 D1 D2
        generalize wr.alloc (.cells (cpA x) 46) = w3 at *
        generalize wr.heap.size = k1 at *
        go_upto_region 7 with (first | with_reducible refine wpList_loadCP rfl 46 (.tmp 24) rfl rfl C2 Try.underlying46 szC ?_ | with_reducible refine wpList_new rfl 46 rfl (cpA c0p) 46 allocC ?_ | with_reducible refine wpList_varC rfl 46 (.tmp 9) (.tmp 25) rfl (Blk.new w3 (cpA c0p) 46) rfl hyw rfl rfl szC ?_)
        try simp only [Act.put, List.setIfInBounds_toArray, List.set_cons_zero, List.set_cons_succ]
        simp only [setRow_new]
        have V2 := Blk.new w3 (cpA y) 46
        replace V1 := V1.alloc (.cells (cpA y) 46)
        replace bb := bb.alloc bb.size (.cells (cpA y) 46)
        clear C2
        generalize w3.alloc (.cells (cpA y) 46) = w4 at *
        generalize w3.heap.size = k2 at *
        have E1 := V1.cs hxwf
        have E2 := V2.cs hywf
        have hC := iAlike1_any x y w4 hxwf hywf
        by_cases hxy : x.k = y.k ∧ x.d = y.d
        · rw [decide_eq_true hxy] at hC
          have hnx : Hid (∀ (j : Nat) (x y : Cp), j < k + 1 → xs[j]? = some x → ys[j]? = some y → x.k = y.k ∧ x.d = y.d) := fun j x' y' hj h1 h2 => by
            by_cases hjk : j = k
            · subst hjk
              cases hz1.symm.trans h1
              cases hz2.symm.trans h2
              exact hxy
            · exact hall.out j x' y' (by omega) h1 h2
          clear hxy hz1 hz2
          go_wp2_with (first | with_reducible refine wpList_loadCP rfl 46 (.tmp 8) rfl rfl E1 Try.underlying46 szC ?_ | with_reducible refine wpList_loadCP rfl 46 (.tmp 9) rfl rfl E2 Try.underlying46 szC ?_)
          refine hC.mono ?_
          clear hC
          rintro e w5 ⟨rfl, b5⟩
          go_wp2
          go_roundg q
          case measure => omega
          case rel => exact ⟨k + 1, by omega, by first | rfl | (simp; done) | (simp; exact wrap64_small (by omega) (by omega)), hnx, bb.trans (b5.mono bb.size)⟩
        · rw [decide_eq_false hxy] at hC
          have hno := Lib.hid (alike_no hz1 hz2 hxy)
          clear hxy hz1 hz2
          go_wp2_with (first | with_reducible refine wpList_loadCP rfl 46 (.tmp 8) rfl rfl E1 Try.underlying46 szC ?_ | with_reducible refine wpList_loadCP rfl 46 (.tmp 9) rfl rfl E2 Try.underlying46 szC ?_)
          refine hC.mono ?_
          clear hC
          rintro e w5 ⟨rfl, b5⟩
          go_wp2
          go_ret
          rw [hno.out]
          exact ⟨rfl, bb.trans (b5.mono bb.size)⟩
      · obtain rfl : k = n := by omega
        have hyes := Lib.hid ((alikeF_iff xs ys).2 ⟨by rw [HN.out, HN2.out], fun i x y h1 h2 => hall.out i x y (by have := (List.getElem?_eq_some_iff.1 h1).1; have := HN.out; omega) h1 h2⟩)
        go_wp2
        go_ret
        rw [hyes.out]
        exact ⟨rfl, bb⟩
  · have hne : ((n : Int) != (n2 : Int)) = true := by simp; omega
    have hno := Lib.hid (alike_len (l := xs) (m := ys) (by rw [HN.out, HN2.out]; exact hnn))
    replace hnn := Lib.hid hnn
    go_enter Try.func30, Try.ntmps30
    go_wp2
    go_ret
    rw [hno.out]
    exact ⟨rfl, Below.refl _ _⟩
theorem iAlike_any {F F2 : Nat → Prop} (xs ys : List Cp) (A : Option Addr) (n c : Nat) (A2 : Option Addr) (n2 c2 : Nat) (w : World) (h : Rs cpE F w A n c xs) (h2 : Rs cpE F2 w A2 n2 c2 ys) :
    Calls Try.prog 14 #[.slice A n c, .slice A2 n2 c2] w fun e w' => e = .returned (.bool (alikeF xs ys)) ∧ Below w.heap.size w w' := by
  go_enter Try.func14, Try.ntmps14
  go_wp2_with fail
  refine (iEqF_any xs ys A n c A2 n2 c2 w h h2).mono ?_
  rintro e w2 ⟨rfl, b2⟩
  go_wp2
  go_ret
  exact ⟨rfl, b2⟩
end Go.Proofs.Ytagageidiebogaa
