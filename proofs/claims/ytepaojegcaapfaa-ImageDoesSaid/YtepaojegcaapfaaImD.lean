/-
  Merged: XImRef1 XImRef2 XImRef3 XImRef4.
-/
import Derived.Test.YtepaojegcaapfaaImB
import Derived.Test.YtepaojegcaapfaaImC
/-
  Contracts of the document's fits and Check of images (written by gen_imref1.py).
-/
namespace Go.Proofs.Ytepaojegcaapfaa
open Go.RowKit Go.Wag
set_option linter.unusedVariables false
set_option linter.unusedSimpArgs false
set_option maxRecDepth 20000
theorem fits9_any (A : Option Addr) (n c : Nat) (lba m : Int) (w : World) (hn : n ≤ 1000000000) (hl : lba ≤ 9223372036854775807) : Calls Try.prog 74 #[.slice A n c, .int .i64 lba, .int .i64 m] w fun e w' => e = .returned (.bool (hasF n lba m)) ∧ w = w' := by
  unfold hasF
  by_cases h0 : lba ≥ 0
  · by_cases h1 : lba ≤ (n : Int)
    · by_cases h2 : m ≥ 1
      · by_cases h3 : m ≤ (n : Int) - lba
        · rw [decide_eq_true ⟨h0, h2, h3⟩]
          go_enter Try.func74, Try.ntmps74
          go_wp2
          go_ret
          exact ⟨rfl, rfl⟩
        · rw [decide_eq_false (fun hh => h3 hh.2.2)]
          go_enter Try.func74, Try.ntmps74
          go_wp2
          go_ret
          exact ⟨rfl, rfl⟩
      · rw [decide_eq_false (fun hh => h2 hh.2.1)]
        go_enter Try.func74, Try.ntmps74
        go_wp2
        go_ret
        exact ⟨rfl, rfl⟩
    · rw [decide_eq_false (fun hh => h1 (by omega))]
      go_enter Try.func74, Try.ntmps74
      go_wp2
      go_ret
      exact ⟨rfl, rfl⟩
  · rw [decide_eq_false (fun hh => h0 hh.1)]
    go_enter Try.func74, Try.ntmps74
    go_wp2
    go_ret
    exact ⟨rfl, rfl⟩
set_option maxHeartbeats 4000000 in
theorem fCk9_any {F : Nat → Prop} (xs : List Cp) (A : Option Addr) (n c : Nat) (w : World) (h : Rs cpE F w A n c xs) :
    Calls Try.prog 35 #[.slice A n c] w fun e w' => e = .returned (.bool (ichk xs)) ∧ Below w.heap.size w w' := by
  have HN : Hid (xs.length = n) := h.len
  have hcap := h.cap
  have hbig := h.big
  by_cases h1 : (n : Int) < 1
  · rw [ichk_len HN.out (.inl (by omega))]
    go_enter Try.func35, Try.ntmps35
    go_wp2
    go_ret
    exact ⟨rfl, Below.refl _ _⟩
  by_cases h64 : (n : Int) > 64
  · rw [ichk_len HN.out (.inr (by omega))]
    go_enter Try.func35, Try.ntmps35
    go_wp2
    go_ret
    exact ⟨rfl, Below.refl _ _⟩
  go_enter Try.func35, Try.ntmps35
  go_wp2_with fail
  go_loopg [3] n (fun g i wr => ∃ k : Nat, k + g = n ∧ i = .int .i64 (k : Int) ∧ Hid (∀ x ∈ xs.take k, x.ok = true) ∧ Below w.heap.size w wr)
  case atStart => exact ⟨0, by omega, rfl, fun x hx => absurd hx (by simp), Below.refl _ _⟩
  case round =>
    obtain ⟨k, hk, rfl, hall, bb⟩ := hrel
    by_cases hlt : (k : Int) < (n : Int)
    · obtain ⟨q, rfl⟩ : ∃ q, gk = q + 1 := ⟨gk - 1, by omega⟩
      obtain ⟨gb, o, x, rfl, _, hg0, hz, C0⟩ := h.cp_at (show k < n by omega)
      have C := C0.below bb hg0
      have hg : gb < wr.heap.size := by have := bb.size; omega
      have hxw := C.1.len
      have v0 := C.kind
      have v1 := C.gen
      have hG := guardD
      have hE := eqD hxw z32_len
      clear C0 hg0
      by_cases k0 : x.k < 0
      · have hno : Hid (ichk xs = false) := ichk_no hz (cpok_no (by omega))
        go_wp2
        go_ret
        rw [hno.out]
        exact ⟨rfl, bb⟩
      by_cases k2 : x.k > 2
      · have hno : Hid (ichk xs = false) := ichk_no hz (cpok_no (by omega))
        go_wp2
        go_ret
        rw [hno.out]
        exact ⟨rfl, bb⟩
      by_cases g0 : x.g < 0
      · have hno : Hid (ichk xs = false) := ichk_no hz (cpok_no (by omega))
        go_wp2
        go_ret
        rw [hno.out]
        exact ⟨rfl, bb⟩
      by_cases g2 : x.g ≥ 2147483648
      · have hno : Hid (ichk xs = false) := ichk_no hz (cpok_no (by omega))
        go_wp2
        go_ret
        rw [hno.out]
        exact ⟨rfl, bb⟩
      by_cases ke : x.k = 2
      · have hok := Lib.hid (all_take hall.out hz (decide_eq_true ⟨by omega, by omega, by omega, by omega, fun hh => absurd ke hh⟩))
        have kb : (x.k != 2) = false := by simp [ke]
        go_wp2
        go_roundg q
        case measure => omega
        case rel => exact ⟨k + 1, by omega, by first | rfl | (simp; done) | (simp; exact wrap64_small (by omega) (by omega)), hok, bb⟩
      have kb : (x.k != 2) = true := by simp [ke]
      by_cases hd : x.d = z32
      · have hok := Lib.hid (all_take hall.out hz (decide_eq_true ⟨by omega, by omega, by omega, by omega, fun _ => hd⟩))
        rw [decide_eq_true hd] at hE
        clear hd
        go_wp2_with (first | ((with_reducible refine wpList_at 59 rfl ?_ (.pointer (some ⟨gb, o + k * 34 + 2, none⟩)) ?_ ?_); (· rfl); (· go_simp)) | ((with_reducible refine wpList_loadD ?_ 60 (.tmp 59) rfl ?_ C Try.underlying60 szD ?_); (· rfl); (· rfl)) | ((with_reducible refine wpList_at 61 rfl ?_ (.agg (dA z32)) ?_ ?_); (· rfl); (· exact exec_build0 60 rfl (buildD _))))
        go_roundg q
        case measure => omega
        case rel => exact ⟨k + 1, by omega, by first | rfl | (simp; done) | (simp; exact wrap64_small (by omega) (by omega)), hok, bb⟩
      · have hno : Hid (ichk xs = false) := ichk_no hz (cpok_no (fun hh => hd (hh.2.2.2.2 ke)))
        rw [decide_eq_false hd] at hE
        clear hd
        go_wp2_with (first | ((with_reducible refine wpList_at 59 rfl ?_ (.pointer (some ⟨gb, o + k * 34 + 2, none⟩)) ?_ ?_); (· rfl); (· go_simp)) | ((with_reducible refine wpList_loadD ?_ 60 (.tmp 59) rfl ?_ C Try.underlying60 szD ?_); (· rfl); (· rfl)) | ((with_reducible refine wpList_at 61 rfl ?_ (.agg (dA z32)) ?_ ?_); (· rfl); (· exact exec_build0 60 rfl (buildD _))))
        go_ret
        rw [hno.out]
        exact ⟨rfl, bb⟩
    · obtain rfl : k = n := by omega
      have hyes : Hid (ichk xs = true) := ichk_iff.2 ⟨by rw [HN.out]; omega, fun x hx => hall.out x (by rw [List.take_of_length_le (Nat.le_of_eq HN.out)]; exact hx)⟩
      go_wp2
      go_ret
      rw [hyes.out]
      exact ⟨rfl, bb⟩
end Go.Proofs.Ytepaojegcaapfaa

/-
  Contract of the document's Fill of images (written by gen_imref2.py).
-/
namespace Go.Proofs.Ytepaojegcaapfaa
open Go.RowKit Go.Wag
set_option linter.unusedVariables false
set_option linter.unusedSimpArgs false
set_option maxRecDepth 20000
set_option maxHeartbeats 4000000 in
theorem fFill9_any {F : Nat → Prop} (xs : List Cp) (A : Option Addr) (n c : Nat) (lba m kd g : Int) (w : World) (h : Rs cpE F w A n c xs) (hn : n ≤ 1000000) (hlb : lba ≤ 9223372036854775807) :
    Calls Try.prog 39 #[.slice A n c, .int .i64 lba, .int .i64 m, .int .i64 kd, .int .i64 g] w (CErr w (doneL xs (fillMay xs lba m kd g) (fillR xs lba m kd g)) (doneE xs (fillMay xs lba m kd g))) := by
  have HN : Hid (xs.length = n) := h.len
  have hcap := h.cap
  have hbig := h.big
  obtain ⟨iX, hiX, hzX, hsX, hbX⟩ := iCp
  have hC := fCk9_any xs A n c w h
  cases hi : ichk xs
  · rw [hi] at hC
    rw [doneL_chk hi, doneE_chk hi]
    go_enter Try.func39, Try.ntmps39
    go_wp2_with fail
    refine hC.mono ?_
    rintro e w2 ⟨rfl, b2⟩
    go_wp2
    go_ret2
    exact CErr.nil _ b2
  rw [hi] at hC
  have hn0 : 0 < n := by have := (ichk_iff.1 hi).1; have := HN.out; omega
  go_enter Try.func39, Try.ntmps39
  go_wp2_with fail
  refine hC.mono ?_
  clear hC
  rintro e w2 ⟨rfl, b2⟩
  replace h := h.below b2
  have O0 := rq_emptyC (F := fun _ => True) (B := w2.heap.size) (t := 62) w2 (Nat.le_refl _)
  have a1 := (Below.refl w2.heap.size w2).alloc (Nat.le_refl _) (.cells #[] 62)
  have hS := ((h.imp (F' := fun z => z ≠ w2.heap.size) (fun z hz _ => by omega)).below a1).imp (F' := fun z => True ∧ (Value.slice (some ⟨w2.heap.size, 0, none⟩) 0 0).ownBlock ≠ some z) (fun z _ hz => ⟨trivial, fun e => hz (Option.some.inj e).symm⟩)
  obtain ⟨A5, c5, w5, hr, R5, gr, hlies⟩ := O0.appCs (P := Try.prog) (T := 48) (ty := 48) Try.underlying48 hiX hzX hsX hbX zC34 a1.size hS (by omega) (by omega)
  have b5 := a1.grown gr a1.size (fun z hz => by have : some w2.heap.size = some z := hz; cases this; exact Nat.le_refl _)
  clear O0 a1 hS gr hlies
  rw [List.nil_append, Nat.zero_add] at R5
  rw [Nat.zero_add] at hr
  go_wp2_with (at_builtin; refine wpList_run rfl (.tmp 20) (.tmp 21) 48 rfl rfl rfl hr ?_; intro _)
  clear hr
  have hs2 := b2.size
  have bb := b2.trans (b5.mono b2.size)
  replace h := h.below b5
  obtain ⟨gl, rfl, hBg, hnc, hcb, Ro5⟩ := R5.opened hn0
  clear R5 b5 b2
  have hB : w.heap.size ≤ gl := by omega
  have hC := fits9_any A n c lba m w5 (by omega) hlb
  cases hh : hasF n lba m
  · rw [hh] at hC
    refine hC.mono ?_
    clear hC
    rintro e w6 ⟨rfl, rfl⟩
    have hmay : fillMay xs lba m kd g = false := fill_no (.inl (by rw [HN.out]; exact hh))
    go_wp2
    go_ret2
    rw [doneL_may hi hmay, doneE_may hi hmay]
    exact ⟨some ⟨gl, 0, none⟩, n, c5, HN, rfl, Ro5.toRsC HN.out hnc hcb hB, bb⟩
  rw [hh] at hC
  refine hC.mono ?_
  clear hC
  rintro e w6 ⟨rfl, rfl⟩
  by_cases k0 : kd < 0
  · skip
    have hmay : fillMay xs lba m kd g = false := fill_no (.inr (.inl ⟨by omega, by omega⟩))
    go_wp2
    go_ret2
    rw [doneL_may hi hmay, doneE_may hi hmay]
    exact ⟨some ⟨gl, 0, none⟩, n, c5, HN, rfl, Ro5.toRsC HN.out hnc hcb hB, bb⟩
  by_cases k1 : kd > 1
  · skip
    have hmay : fillMay xs lba m kd g = false := fill_no (.inr (.inl ⟨by omega, by omega⟩))
    go_wp2
    go_ret2
    rw [doneL_may hi hmay, doneE_may hi hmay]
    exact ⟨some ⟨gl, 0, none⟩, n, c5, HN, rfl, Ro5.toRsC HN.out hnc hcb hB, bb⟩
  by_cases g0 : g < 0
  · skip
    have hmay : fillMay xs lba m kd g = false := fill_no (.inr (.inr (genF_no (by omega))))
    go_wp2
    go_ret2
    rw [doneL_may hi hmay, doneE_may hi hmay]
    exact ⟨some ⟨gl, 0, none⟩, n, c5, HN, rfl, Ro5.toRsC HN.out hnc hcb hB, bb⟩
  by_cases g1 : g ≥ 2147483648
  · skip
    have hmay : fillMay xs lba m kd g = false := fill_no (.inr (.inr (genF_no (by omega))))
    go_wp2
    go_ret2
    rw [doneL_may hi hmay, doneE_may hi hmay]
    exact ⟨some ⟨gl, 0, none⟩, n, c5, HN, rfl, Ro5.toRsC HN.out hnc hcb hB, bb⟩
  have hk2 : kd = 0 ∨ kd = 1 := by omega
  have hgen : genF g = true := genF_yes (by omega) (by omega)
  have hmay := Lib.hid (fill_yes (l := xs) (lba := lba) (n := m) (by rw [HN.out]; exact hh) hk2 hgen)
  have hkw : (Lit.int .i64 kd).wf = true := wf_small (by omega) (by omega)
  have hgw := gen_wf hgen
  clear hk2 hgen
  obtain ⟨a, mm, rfl, rfl, hm1, hfit⟩ := has_nat hh
  clear hh
  have eR : fillR xs (a : Int) (mm : Int) kd g = setsF xs a (fun _ => ⟨kd, g, z32⟩) mm := by unfold fillR; rw [Int.toNat_natCast, Int.toNat_natCast]
  replace eR := Lib.hid eR
  go_wp2_with fail
  go_loopg [15] mm (fun q i wr => ∃ p j : Nat, j + q = mm ∧ Hid (a + j = p) ∧ p ≤ 1000000 ∧ i = .int .i64 (p : Int) ∧ Ro cpE (fun _ => True) 62 wr gl (setsF xs a (fun _ => ⟨kd, g, z32⟩) j) ∧ Below w.heap.size w wr)
  case atStart => exact ⟨a, 0, by omega, Lib.hid (by omega), by omega, rfl, Ro5, bb⟩
  case round =>
    clear bb Ro5
    obtain ⟨p, j, hj, hp, hpb, rfl, R, bb⟩ := hrel
    have hsB : w.heap.size ≤ wr.heap.size := Nat.le_trans hB (Nat.le_of_lt R.lt)
    by_cases hlt : (p : Int) < (a : Int) + (mm : Int)
    · have hq : 0 < gk := by have := hp.out; omega
      obtain ⟨q, rfl⟩ : ∃ q, gk = q + 1 := ⟨gk - 1, by omega⟩
      have hjl : p < n := by omega
      clear hq
      obtain ⟨cs, hcs, hBk⟩ := R.blk
      have hcs2 : p * 34 + 34 ≤ cs.size := by rw [setsF_len, HN.out] at hcs; have e34 : cpE.k = 34 := rfl; rw [e34] at hcs; omega
      go_wp2_with (first | with_reducible refine wpList_build2 rfl 62 (.tmp 56) (.tmp 57) 0 1 rfl (.int .i64 kd) (.int .i64 g) _ rfl rfl (buildC kd g) ?_ | ((with_reducible refine wpList_storeC ?_ hBk 62 (.tmp 59) (.tmp 58) rfl (p := p * 34) (z := ⟨kd, g, z32⟩) rfl rfl rfl hcs2 szC ?_); (· rfl)))
      have R7 := R.set (i := p) (by rw [setsF_len, HN.out]; omega) (y := ⟨kd, g, z32⟩) (vs := cpV ⟨kd, g, z32⟩) ⟨rfl, ⟨rfl, hkw, hgw⟩⟩
      have bb7 := setL_below hB (cpV ⟨kd, g, z32⟩) (p * 34) bb
      clear hBk hcs hcs2
      have Rj : Ro cpE (fun _ => True) 62 (setL wr gl (p * 34) (cpV ⟨kd, g, z32⟩)) gl (setsF xs a (fun _ => ⟨kd, g, z32⟩) (j + 1)) := by rw [setsF, hp.out]; exact R7
      clear R7 R
      generalize setL wr gl (p * 34) (cpV ⟨kd, g, z32⟩) = w8 at *
      go_roundg q
      case measure => omega
      case rel => exact ⟨p + 1, j + 1, by omega, Lib.hid (by have := hp.out; omega), by omega, by first | rfl | (simp; done) | (simp; exact wrap64_small (by omega) (by omega)), Rj, bb7⟩
    · obtain rfl : j = mm := by have := hp.out; omega
      go_wp2
      go_ret2
      rw [doneL_yes hi hmay.out, doneE_yes hi hmay.out, eR.out]
      have hl := Lib.hid ((setsF_len xs a (fun _ => (⟨kd, g, z32⟩ : Cp)) j).trans HN.out)
      exact ⟨some ⟨gl, 0, none⟩, n, c5, hl, rfl, R.toRsC hl.out hnc hcb hB, bb⟩
end Go.Proofs.Ytepaojegcaapfaa

/-
  Contract of the document's Read of images (written by gen_imref3.py).
-/
namespace Go.Proofs.Ytepaojegcaapfaa
open Go.RowKit Go.Wag
set_option linter.unusedVariables false
set_option linter.unusedSimpArgs false
set_option maxRecDepth 20000
theorem BErr.nil {w w' : World} (er : Int) (hb : Below w.heap.size w w') : BErr w [] er (.returned (.tuple #[.slice none 0 0, .int .i64 er])) w' := ⟨none, 0, 0, rfl, rfl, Sl.nil _, (fun _ h => nomatch h), hb⟩
theorem own_from {B : Nat} {e : TypeId} {w0 w' : World} {v0 : Value} {A : Option Addr} {n c : Nat} {xs : List Value} (h : Go.Wag.Own B e w0 w' v0 (.slice A n c) n xs) : ∀ ad, A = some ad → B ≤ ad.block := by
  rintro ad rfl
  rcases h.own.2 with ⟨hv, _⟩ | ⟨g, cap, cur, hv, hg, _⟩
  · simp at hv
  · simp only [Value.slice.injEq, Option.some.injEq] at hv
    obtain ⟨rfl, _⟩ := hv
    exact hg
set_option maxHeartbeats 4000000 in
theorem fRead9_any {F : Nat → Prop} (xs : List Cp) (A : Option Addr) (n c : Nat) (lba m : Int) (w : World) (h : Rs cpE F w A n c xs) (hn : n ≤ 1000000) (hlb : lba ≤ 9223372036854775807) :
    Calls Try.prog 43 #[.slice A n c, .int .i64 lba, .int .i64 m] w (BErr w (rdR xs lba m) (doneE xs (hasF xs.length lba m))) := by
  have HN : Hid (xs.length = n) := h.len
  have hcap := h.cap
  have hbig := h.big
  have hC := fCk9_any xs A n c w h
  cases hi : ichk xs
  · rw [hi] at hC
    rw [rdR_no (.inl hi), doneE_chk hi]
    go_enter Try.func43, Try.ntmps43
    go_wp2_with fail
    refine hC.mono ?_
    rintro e w2 ⟨rfl, b2⟩
    go_wp2
    go_ret2
    exact BErr.nil _ b2
  rw [hi] at hC
  go_enter Try.func43, Try.ntmps43
  go_wp2_with fail
  refine hC.mono ?_
  clear hC
  rintro e w2 ⟨rfl, b2⟩
  have hC := fits9_any A n c lba m w2 (by omega) hlb
  cases hh : hasF n lba m
  · rw [hh] at hC
    go_wp2_with fail
    refine hC.mono ?_
    clear hC
    rintro e w6 ⟨rfl, rfl⟩
    go_wp2
    go_ret2
    rw [rdR_no (.inr (by rw [HN.out]; exact hh)), doneE_may hi (by rw [HN.out]; exact hh)]
    exact BErr.nil _ b2
  rw [hh] at hC
  have hR := Lib.hid (rdR_yes (l := xs) hi (by rw [HN.out]; exact hh))
  have hE := Lib.hid (doneE_yes (l := xs) (m := hasF xs.length lba m) hi (by rw [HN.out]; exact hh))
  have h64 := (ichk_iff.1 hi).1.2
  rw [HN.out] at h64
  obtain ⟨a, mm, rfl, rfl, hm1, hfit⟩ := has_nat hh
  rw [Int.toNat_natCast, Int.toNat_natCast] at hR
  replace h := h.below b2
  have hwf : Hid (∀ x ∈ xs, x.d.length = 32) := fun x hx => (h.wfs x hx).len
  obtain ⟨i0, hi0, hz0, hz1, hz2⟩ := info_parts i5
  clear hi hh
  go_wp2_with fail
  refine hC.mono ?_
  clear hC
  rintro e w6 ⟨rfl, rfl⟩
  go_wp2_with fail
  go_loopg [10, 11] mm (fun q v i wr => ∃ (p j no : Nat) (Ao : Option Addr) (co : Nat), j + q = mm ∧ Hid (a + j = p) ∧ p ≤ 1000000 ∧ Hid (32 * j = no) ∧ no ≤ 100000 ∧ i = .int .i64 (p : Int) ∧ v = .slice Ao no co ∧ Go.Wag.Own w2.heap.size 5 w2 wr (.slice none 0 0) (.slice Ao no co) no ((flatB xs a j).map v8))
  case atStart => exact ⟨a, 0, 0, none, 0, by omega, Lib.hid (by omega), by omega, Lib.hid rfl, by omega, rfl, rfl, Go.Wag.Own.start (World.ownsRow_nil _ _ _ _) (Nat.le_refl _)⟩
  case round =>
    obtain ⟨p, j, no, Ao, co, hj, hp, hpb, hno, hnob, rfl, rfl, HO⟩ := hrel
    have bL : Below w2.heap.size w2 wr := HO.below (Below.refl _ _) (Nat.le_refl _) (fun k hk => by cases hk)
    by_cases hlt : (p : Int) < (a : Int) + (mm : Int)
    · have hq : 0 < gk := by have := hp.out; omega
      obtain ⟨q, rfl⟩ : ∃ q, gk = q + 1 := ⟨gk - 1, by omega⟩
      have hjl : p < n := by omega
      obtain ⟨g, o, x, rfl, _, hg0, hz, C0⟩ := h.cp_at hjl
      have hg : g < wr.heap.size := by have := bL.size; omega
      have S0 := (C0.below bL hg0).data hg (c := 32) (Nat.le_refl _) (by decide)
      obtain ⟨A2, c2, w3, hr, HO2⟩ := run_app (P := Try.prog) HO 23 23 i0 (.int .u8 0) 1 Try.underlying23 hi0 hz0 hz1 hz2 rfl _ _ _ _ S0 (oneCell8 _) (by omega) (by omega)
      have hfl : flatB xs a (j + 1) = flatB xs a j ++ x.d := by rw [flatB, hp.out, hz]; rfl
      rw [← List.map_append, ← hfl] at HO2
      clear hq hz hfl S0
      go_wp2_with (at_builtin; refine wpList_run rfl (.tmp 30) (.tmp 35) 23 rfl rfl rfl hr ?_; intro _)
      go_roundg q
      case measure => omega
      case rel => exact ⟨p + 1, j + 1, no + 32, A2, c2, by omega, Lib.hid (by have := hp.out; omega), by omega, Lib.hid (by have := hno.out; omega), by have := hno.out; have := hp.out; omega, by first | rfl | (simp; done) | (simp; exact wrap64_small (by omega) (by omega)), rfl, HO2⟩
    · obtain rfl : j = mm := by have := hp.out; omega
      go_wp2
      go_ret2
      have hs2 := b2.size
      rw [hR.out, hE.out]
      exact ⟨Ao, no, co, (flatB_len hwf.out j (by rw [HN.out]; exact hfit)).trans hno.out, rfl, HO.to_sl, fun ad e => Nat.le_trans hs2 (own_from HO ad e), b2.trans (bL.mono hs2)⟩
end Go.Proofs.Ytepaojegcaapfaa

/-
  Contract of the document's Write of images (written by gen_imref4.py).
-/
namespace Go.Wag
open Go.RowKit
set_option linter.unusedVariables false
theorem cp_byte {K g : Int} {d : List UInt8} {k : Nat} {c : UInt8} (hd : d[k]? = some c) (hk : k < 32) : (cpA ⟨K, g, d.take k ++ z32.drop k⟩).setIfInBounds (2 + k) (v8 c) = cpA ⟨K, g, d.take (k + 1) ++ z32.drop (k + 1)⟩ := by
  have hl : k < d.length := (List.getElem?_eq_some_iff.1 hd).1
  have ht : (d.take k).length = k := by rw [List.length_take]; omega
  have e : (d.take k ++ z32.drop k).set k c = d.take (k + 1) ++ z32.drop (k + 1) := by
    rw [List.set_append_right _ _ (by omega), ht, Nat.sub_self, List.drop_eq_getElem_cons (show k < z32.length by rw [z32_len]; exact hk), List.set_cons_zero, take_one hd, List.append_assoc]
    rfl
  unfold cpA
  rw [List.setIfInBounds_toArray, show 2 + k = k + 1 + 1 by omega, cpV, List.set_cons_succ, List.set_cons_succ, ← List.map_set, e]
  rfl
theorem cp_at2 {K g : Int} {d : List UInt8} {k : Nat} {c : UInt8} (hd : d[k]? = some c) : (cpA ⟨K, g, d⟩)[2 + k]? = some (.int .u8 (c.toNat : Int)) := by
  rw [cpA, List.getElem?_toArray, show 2 + k = k + 1 + 1 by omega, cpV, List.getElem?_cons_succ, List.getElem?_cons_succ, List.getElem?_map, hd]
  rfl
end Go.Wag
namespace Go.Proofs.Ytepaojegcaapfaa
open Go.RowKit Go.Wag
set_option linter.unusedVariables false
set_option linter.unusedSimpArgs false
set_option maxRecDepth 20000
set_option maxHeartbeats 4000000 in
theorem fWrite9_any {F : Nat → Prop} (xs : List Cp) (A : Option Addr) (n c : Nat) (lba g : Int) (Ab : Option Addr) (nb cb : Nat) (b : List UInt8) (w : World) (h : Rs cpE F w A n c xs) (hb : Sl w Ab nb cb (b.map v8)) (hn : n ≤ 1000000) (hnb : nb ≤ 100000000) (hlb : lba ≤ 9223372036854775807) :
    Calls Try.prog 41 #[.slice A n c, .int .i64 lba, .int .i64 g, .slice Ab nb cb] w (CErr w (doneL xs (wrMay xs lba g b) (wrR xs lba g b)) (doneE xs (wrMay xs lba g b))) := by
  have HB : Hid (b.length = nb) := hb.len8
  obtain ⟨N, hq⟩ : ∃ q, nb / 32 = q := ⟨_, rfl⟩
  obtain ⟨r, hr0⟩ : ∃ r, nb % 32 = r := ⟨_, rfl⟩
  have t1 : Int.tdiv (nb : Int) 32 = (N : Int) := by rw [Int.tdiv_eq_ediv_of_nonneg (by omega)]; omega
  have t2 : (nb : Int) / 32 = (N : Int) := by omega
  have t3 : Int.tmod (nb : Int) 32 = (r : Int) := by rw [Int.tmod_eq_emod_of_nonneg (by omega)]; omega
  have t4 : (nb : Int) % 32 = (r : Int) := by omega
  have hqb : N ≤ 100000000 := by omega
  have hq32 : Hid (32 * N + r = nb ∧ r < 32) := Lib.hid ⟨by omega, by omega⟩
  have hq3 : Hid (b.length / 32 = N) := Lib.hid (by rw [HB.out]; exact hq)
  have hr3 : Hid (b.length % 32 = r) := Lib.hid (by rw [HB.out]; exact hr0)
  replace hq := Lib.hid hq
  replace hr0 := Lib.hid hr0
  have HN : Hid (xs.length = n) := h.len
  have hcap := h.cap
  have hbig := h.big
  obtain ⟨iX, hiX, hzX, hsX, hbX⟩ := iCp
  have hC := fCk9_any xs A n c w h
  cases hi : ichk xs
  · rw [hi] at hC
    rw [doneL_chk hi, doneE_chk hi]
    go_enter Try.func41, Try.ntmps41
    go_wp2_with fail
    refine hC.mono ?_
    rintro e w2 ⟨rfl, b2⟩
    go_wp2
    go_ret2
    exact CErr.nil _ b2
  rw [hi] at hC
  have hn0 : 0 < n := by have := (ichk_iff.1 hi).1; have := HN.out; omega
  go_enter Try.func41, Try.ntmps41
  go_wp2_with fail
  refine hC.mono ?_
  clear hC
  rintro e w2 ⟨rfl, b2⟩
  replace h := h.below b2
  have O0 := rq_emptyC (F := fun _ => True) (B := w2.heap.size) (t := 62) w2 (Nat.le_refl _)
  have a1 := (Below.refl w2.heap.size w2).alloc (Nat.le_refl _) (.cells #[] 62)
  have hS := ((h.imp (F' := fun z => z ≠ w2.heap.size) (fun z hz _ => by omega)).below a1).imp (F' := fun z => True ∧ (Value.slice (some ⟨w2.heap.size, 0, none⟩) 0 0).ownBlock ≠ some z) (fun z _ hz => ⟨trivial, fun e => hz (Option.some.inj e).symm⟩)
  obtain ⟨A5, c5, w5, hr, R5, gr, hlies⟩ := O0.appCs (P := Try.prog) (T := 48) (ty := 48) Try.underlying48 hiX hzX hsX hbX zC34 a1.size hS (by omega) (by omega)
  have b5 := a1.grown gr a1.size (fun z hz => by have : some w2.heap.size = some z := hz; cases this; exact Nat.le_refl _)
  clear O0 a1 hS gr hlies
  rw [List.nil_append, Nat.zero_add] at R5
  rw [Nat.zero_add] at hr
  go_wp2_with (at_builtin; refine wpList_run rfl (.tmp 20) (.tmp 21) 48 rfl rfl rfl hr ?_; intro _)
  clear hr
  have hs2 := b2.size
  have bb := b2.trans (b5.mono b2.size)
  replace h := h.below b5
  obtain ⟨gl, rfl, hBg, hnc, hcb, Ro5⟩ := R5.opened hn0
  clear R5 b5 b2
  have hB : w.heap.size ≤ gl := by omega
  have hC := fits9_any A n c lba (N : Int) w5 (by omega) hlb
  cases hh : hasF n lba (N : Int)
  · rw [hh] at hC
    refine hC.mono ?_
    clear hC
    rintro e w6 ⟨rfl, rfl⟩
    have hmay : wrMay xs lba g b = false := wr_no (.inr (.inl (by rw [HN.out, hq3.out]; exact hh)))
    go_wp2
    go_ret2
    rw [doneL_may hi hmay, doneE_may hi hmay]
    exact ⟨some ⟨gl, 0, none⟩, n, c5, HN, rfl, Ro5.toRsC HN.out hnc hcb hB, bb⟩
  rw [hh] at hC
  refine hC.mono ?_
  clear hC
  rintro e w6 ⟨rfl, rfl⟩
  by_cases hrr : r ≠ 0
  · have hrb : ((r : Int) == 0) = false := by simp; exact hrr
    have hri : ¬ (r : Int) = 0 := by omega
    have hmay : wrMay xs lba g b = false := wr_no (.inl (by rw [hr3.out]; exact hrr))
    go_wp2
    go_ret2
    rw [doneL_may hi hmay, doneE_may hi hmay]
    exact ⟨some ⟨gl, 0, none⟩, n, c5, HN, rfl, Ro5.toRsC HN.out hnc hcb hB, bb⟩
  have hrz : r = 0 := by omega
  subst hrz
  clear hrr
  by_cases g0 : g < 0
  · skip
    have hmay : wrMay xs lba g b = false := wr_no (.inr (.inr (genF_no (by omega))))
    go_wp2
    go_ret2
    rw [doneL_may hi hmay, doneE_may hi hmay]
    exact ⟨some ⟨gl, 0, none⟩, n, c5, HN, rfl, Ro5.toRsC HN.out hnc hcb hB, bb⟩
  by_cases g1 : g ≥ 2147483648
  · skip
    have hmay : wrMay xs lba g b = false := wr_no (.inr (.inr (genF_no (by omega))))
    go_wp2
    go_ret2
    rw [doneL_may hi hmay, doneE_may hi hmay]
    exact ⟨some ⟨gl, 0, none⟩, n, c5, HN, rfl, Ro5.toRsC HN.out hnc hcb hB, bb⟩
  have hgen : genF g = true := genF_yes (by omega) (by omega)
  have hmay := Lib.hid (wr_yes (l := xs) (lba := lba) (g := g) (b := b) hr3.out (by rw [HN.out, hq3.out]; exact hh) hgen)
  have hgw := gen_wf hgen
  have h2w : (Lit.int .i64 2).wf = true := wf_small (by decide) (by decide)
  clear hgen
  obtain ⟨a, mm, rfl, hmm, hm1, hfit⟩ := has_nat hh
  obtain rfl : N = mm := by omega
  clear hh hmm
  have eR : wrR xs (a : Int) g b = setsF xs a (cellB g b) N := by unfold wrR; rw [Int.toNat_natCast, hq3.out]
  replace eR := Lib.hid eR
  replace h := Lib.hid h
  go_wp2_with fail
  go_loopg [13] N (fun q i wr => ∃ j : Nat, j + q = N ∧ i = .int .i64 (j : Int) ∧ Ro cpE (fun _ => True) 62 wr gl (setsF xs a (cellB g b) j) ∧ Below w.heap.size w wr)
  case atStart => exact ⟨0, by omega, rfl, Ro5, bb⟩
  case round =>
    clear bb Ro5
    obtain ⟨wo, hwo⟩ : ∃ x, x = wr := ⟨_, rfl⟩
    subst hwo
    obtain ⟨j, hj, rfl, R, bb⟩ := hrel
    have hsB : w.heap.size ≤ wo.heap.size := Nat.le_trans hB (Nat.le_of_lt R.lt)
    by_cases hlt : (j : Int) < (N : Int)
    · obtain ⟨q, rfl⟩ : ∃ q, gk = q + 1 := ⟨gk - 1, by omega⟩
      obtain ⟨p, hp⟩ : ∃ p, a + j = p := ⟨_, rfl⟩
      have hjl : p < n := by omega
      have ht2 : ((a : Int) + (j : Int)).toNat = p := by omega
      have hjN : 32 * (j + 1) ≤ nb := by have := hq32.out.1; omega
      have hzl : (chunk b j).length = 32 := chunk_len (by rw [HB.out]; exact hjN)
      replace hjN := Lib.hid hjN
      have hjb : j ≤ 100000000 := by omega
      go_upto_region 12 with (first | with_reducible refine wpList_new rfl 62 rfl (cpA c0p) 62 allocC ?_ | with_reducible refine wpList_build2 rfl 62 _ (.tmp 53) 0 1 rfl (.int .i64 2) (.int .i64 g) _ rfl rfl (buildC 2 g) ?_ | with_reducible refine wpList_varC rfl 62 (.tmp 14) (.tmp 54) rfl (Blk.new wo (cpA c0p) 62) rfl rfl rfl rfl szC ?_)
      try simp only [Act.put, List.setIfInBounds_toArray, List.set_cons_zero, List.set_cons_succ]
      simp only [setRow_new]
      have V0 := Blk.new wo (cpA ⟨2, g, z32⟩) 62
      have bV := (Below.refl wo.heap.size wo).alloc (Nat.le_refl _) (.cells (cpA ⟨2, g, z32⟩) 62)
      generalize wo.alloc (.cells (cpA ⟨2, g, z32⟩) 62) = w7 at *
      obtain ⟨kc, hkc⟩ : ∃ k, wo.heap.size = k := ⟨_, rfl⟩
      have hkc2 : wo.heap.size ≤ kc := by omega
      simp only [hkc] at V0 ⊢
      replace hkc := Lib.hid hkc
      go_wp2_with fail
      go_loopg [15] 32 (fun q2 i wx => ∃ k : Nat, k + q2 = 32 ∧ i = .int .i64 (k : Int) ∧ Blk wx kc (cpA ⟨2, g, (chunk b j).take k ++ z32.drop k⟩) 62 ∧ Below wo.heap.size wo wx)
      case atStart => exact ⟨0, by omega, rfl, V0, bV⟩
      case round =>
        clear V0 bV
        obtain ⟨k, hk, rfl, V, bV⟩ := hrel
        by_cases hlt2 : (k : Int) < 32
        · obtain ⟨q2, rfl⟩ : ∃ q2, gk = q2 + 1 := ⟨gk - 1, by omega⟩
          obtain ⟨pp, hpp⟩ : ∃ pp, 32 * j + k = pp := ⟨_, rfl⟩
          have hppn : pp < nb := by have := hjN.out; omega
          have ht : (32 * (j : Int) + (k : Int)).toNat = pp := by omega
          obtain ⟨ad, rfl, hb2, hl2, hc2⟩ := ((hb.below bb).below bV).byte hppn
          have hck : (chunk b j)[k]? = some (b[pp]'hl2) := by rw [chunk, List.getElem?_take, if_pos (by omega), List.getElem?_drop, hpp, List.getElem?_eq_getElem hl2]
          generalize b[pp]'hl2 = cc at *
          have hold : ((chunk b j).take k ++ z32.drop k)[k]? = some 0 := by rw [List.getElem?_append_right (by rw [List.length_take]; omega), List.length_take, hzl, Nat.min_eq_left (by omega), Nat.sub_self, List.getElem?_drop, Nat.add_zero]; exact z32_at (by omega)
          have vq : wr.cell? ⟨kc, 2 + k, none⟩ = some (.int .u8 (((0 : UInt8).toNat : Nat) : Int)) := (V.cell _).trans (cp_at2 hold)
          have vr : wr.frozen? ⟨kc, 2 + k, none⟩ = false := V.frozen _
          have V2 := V.set (2 + k) (v8 cc)
          rw [cp_byte hck (by omega)] at V2
          have bV2 := bV.setCell (p := ⟨kc, 2 + k, none⟩) hkc2 (v8 cc)
          rw [show v8 cc = .int .u8 (cc.toNat : Int) from rfl] at V2 bV2
          have hlc := V.lt
          clear hold hck V bV
          replace hpp := Lib.hid hpp
          go_wp2_with fail
          go_roundg q2
          case measure => omega
          case rel => exact ⟨k + 1, by omega, by first | rfl | (simp; done) | (simp; exact wrap64_small (by omega) (by omega)), V2, bV2⟩
        · obtain rfl : k = 32 := by omega
          rw [List.take_of_length_le (Nat.le_of_eq hzl), show z32.drop 32 = [] from rfl, List.append_nil] at V
          have C := V.cs ⟨hzl, h2w, hgw⟩
          have Rv := R.under bV
          obtain ⟨cs, hcs, hBk⟩ := Rv.blk
          have hcs2 : p * 34 + 34 ≤ cs.size := by rw [setsF_len, HN.out] at hcs; have e34 : cpE.k = 34 := rfl; rw [e34] at hcs; omega
          replace hp := Lib.hid hp
          go_wp2_with (first | with_reducible refine wpList_loadCP rfl 62 (.tmp 14) rfl rfl C Try.underlying62 szC ?_ | ((with_reducible refine wpList_storeC ?_ hBk 62 (.tmp 74) (.tmp 73) rfl (p := p * 34) (z := ⟨2, g, chunk b j⟩) hzl rfl rfl hcs2 szC ?_); (· rfl)))
          have R7 := Rv.set (i := p) (by rw [setsF_len, HN.out]; omega) (y := ⟨2, g, chunk b j⟩) (vs := cpV ⟨2, g, chunk b j⟩) ⟨rfl, ⟨hzl, h2w, hgw⟩⟩
          have bb7 := setL_below hB (cpV ⟨2, g, chunk b j⟩) (p * 34) (bb.trans (bV.mono hsB))
          have Rj : Ro cpE (fun _ => True) 62 (setL wr gl (p * 34) (cpV ⟨2, g, chunk b j⟩)) gl (setsF xs a (cellB g b) (j + 1)) := by rw [setsF, hp.out]; exact R7
          clear R7 R Rv C V hBk hcs hcs2 bV
          generalize setL wr gl (p * 34) (cpV ⟨2, g, chunk b j⟩) = w8 at *
          go_roundg q
          case measure => omega
          case rel => exact ⟨j + 1, by omega, by first | rfl | (simp; done) | (simp; exact wrap64_small (by omega) (by omega)), Rj, bb7⟩
    · obtain rfl : j = N := by omega
      go_wp2
      go_ret2
      rw [doneL_yes hi hmay.out, doneE_yes hi hmay.out, eR.out]
      have hl := Lib.hid ((setsF_len xs a (cellB g b) j).trans HN.out)
      exact ⟨some ⟨gl, 0, none⟩, n, c5, hl, rfl, R.toRsC hl.out hnc hcb hB, bb⟩
end Go.Proofs.Ytepaojegcaapfaa
