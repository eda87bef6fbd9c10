/-
  Merged: XImRef1 XImRef4 XImRef5 XImRef6.
-/
import Derived.Test.YtagageidiebogaaImB
import Derived.Test.YtagageidiebogaaImC
/-
  Contracts of the document's fits and Check of images (written by gen_imref1.py).
-/
namespace Go.Proofs.Ytagageidiebogaa
open Go.RowKit Go.Wag
set_option linter.unusedVariables false
set_option linter.unusedSimpArgs false
set_option maxRecDepth 20000
set_option maxHeartbeats 4000000 in
theorem fCk9_any {F : Nat → Prop} (xs : List Cp) (A : Option Addr) (n c : Nat) (w : World) (h : Rs cpE F w A n c xs) :
    Calls Try.prog 13 #[.slice A n c] w fun e w' => e = .returned (.bool (ichk xs)) ∧ Below w.heap.size w w' := by
  have HN : Hid (xs.length = n) := h.len
  have hcap := h.cap
  have hbig := h.big
  by_cases h1 : (n : Int) < 1
  · rw [ichk_len HN.out (.inl (by omega))]
    go_enter Try.func13, Try.ntmps13
    go_wp2
    go_ret
    exact ⟨rfl, Below.refl _ _⟩
  by_cases h64 : (n : Int) > 64
  · rw [ichk_len HN.out (.inr (by omega))]
    go_enter Try.func13, Try.ntmps13
    go_wp2
    go_ret
    exact ⟨rfl, Below.refl _ _⟩
  go_enter Try.func13, Try.ntmps13
  go_wp2_with fail
  go_loopg [3] n (fun g i wr => ∃ k : Nat, k + g = n ∧ i = .int .i64 (k : Int) ∧ Hid (∀ x ∈ xs.take k, x.ok = true) ∧ Below w.heap.size w wr)
  case atStart => exact ⟨0, by omega, rfl, fun x hx => absurd hx (by simp), Below.refl _ _⟩
  case round =>
    obtain ⟨k, hk, rfl, hall, bb⟩ := hrel
    by_cases hlt : (k : Int) < (n : Int)
    · obtain ⟨q, rfl⟩ : ∃ q, gk = q + 1 := ⟨gk - 1, by omega⟩
      obtain ⟨gb, o, x, rfl, _, hg0, hz, C0⟩ := h.cp_at (show k < n by omega)
      have C := C0.below bb hg0
      have hg : gb < wr.heap.size := by have := bb.size; omega
      have hxw := C.1.len
      have v0 := C.kind
      have v1 := C.gen
      have hG := guardD
      have hE := eqD hxw z32_len
      clear C0 hg0
      by_cases k0 : x.k < 0
      · have hno : Hid (ichk xs = false) := ichk_no hz (cpok_no (by omega))
        go_wp2
        go_ret
        rw [hno.out]
        exact ⟨rfl, bb⟩
      by_cases k2 : x.k > 2
      · have hno : Hid (ichk xs = false) := ichk_no hz (cpok_no (by omega))
        go_wp2
        go_ret
        rw [hno.out]
        exact ⟨rfl, bb⟩
      by_cases g0 : x.g < 0
      · have hno : Hid (ichk xs = false) := ichk_no hz (cpok_no (by omega))
        go_wp2
        go_ret
        rw [hno.out]
        exact ⟨rfl, bb⟩
      by_cases g2 : x.g ≥ 2147483648
      · have hno : Hid (ichk xs = false) := ichk_no hz (cpok_no (by omega))
        go_wp2
        go_ret
        rw [hno.out]
        exact ⟨rfl, bb⟩
      by_cases ke : x.k = 2
      · have hok := Lib.hid (all_take hall.out hz (decide_eq_true ⟨by omega, by omega, by omega, by omega, fun hh => absurd ke hh⟩))
        have kb : (x.k != 2) = false := by simp [ke]
        go_wp2
        go_roundg q
        case measure => omega
        case rel => exact ⟨k + 1, by omega, by first | rfl | (simp; done) | (simp; exact wrap64_small (by omega) (by omega)), hok, bb⟩
      have kb : (x.k != 2) = true := by simp [ke]
      by_cases hd : x.d = z32
      · have hok := Lib.hid (all_take hall.out hz (decide_eq_true ⟨by omega, by omega, by omega, by omega, fun _ => hd⟩))
        rw [decide_eq_true hd] at hE
        clear hd
        go_wp2_with (first | ((with_reducible refine wpList_at 59 rfl ?_ (.pointer (some ⟨gb, o + k * 34 + 2, none⟩)) ?_ ?_); (· rfl); (· go_simp)) | ((with_reducible refine wpList_loadD ?_ 44 (.tmp 59) rfl ?_ C Try.underlying44 szD ?_); (· rfl); (· rfl)) | ((with_reducible refine wpList_at 61 rfl ?_ (.agg (dA z32)) ?_ ?_); (· rfl); (· exact exec_build0 44 rfl (buildD _))))
        go_roundg q
        case measure => omega
        case rel => exact ⟨k + 1, by omega, by first | rfl | (simp; done) | (simp; exact wrap64_small (by omega) (by omega)), hok, bb⟩
      · have hno : Hid (ichk xs = false) := ichk_no hz (cpok_no (fun hh => hd (hh.2.2.2.2 ke)))
        rw [decide_eq_false hd] at hE
        clear hd
        go_wp2_with (first | ((with_reducible refine wpList_at 59 rfl ?_ (.pointer (some ⟨gb, o + k * 34 + 2, none⟩)) ?_ ?_); (· rfl); (· go_simp)) | ((with_reducible refine wpList_loadD ?_ 44 (.tmp 59) rfl ?_ C Try.underlying44 szD ?_); (· rfl); (· rfl)) | ((with_reducible refine wpList_at 61 rfl ?_ (.agg (dA z32)) ?_ ?_); (· rfl); (· exact exec_build0 44 rfl (buildD _))))
        go_ret
        rw [hno.out]
        exact ⟨rfl, bb⟩
    · obtain rfl : k = n := by omega
      have hyes : Hid (ichk xs = true) := ichk_iff.2 ⟨by rw [HN.out]; omega, fun x hx => hall.out x (by rw [List.take_of_length_le (Nat.le_of_eq HN.out)]; exact hx)⟩
      go_wp2
      go_ret
      rw [hyes.out]
      exact ⟨rfl, bb⟩
end Go.Proofs.Ytagageidiebogaa

/-
  Contract of the document's Write of images (written by gen_imref4.py).
-/
namespace Go.Wag
open Go.RowKit
set_option linter.unusedVariables false
theorem cp_byte {K g : Int} {d : List UInt8} {k : Nat} {c : UInt8} (hd : d[k]? = some c) (hk : k < 32) : (cpA ⟨K, g, d.take k ++ z32.drop k⟩).setIfInBounds (2 + k) (v8 c) = cpA ⟨K, g, d.take (k + 1) ++ z32.drop (k + 1)⟩ := by
  have hl : k < d.length := (List.getElem?_eq_some_iff.1 hd).1
  have ht : (d.take k).length = k := by rw [List.length_take]; omega
  have e : (d.take k ++ z32.drop k).set k c = d.take (k + 1) ++ z32.drop (k + 1) := by
    rw [List.set_append_right _ _ (by omega), ht, Nat.sub_self, List.drop_eq_getElem_cons (show k < z32.length by rw [z32_len]; exact hk), List.set_cons_zero, take_one hd, List.append_assoc]
    rfl
  unfold cpA
  rw [List.setIfInBounds_toArray, show 2 + k = k + 1 + 1 by omega, cpV, List.set_cons_succ, List.set_cons_succ, ← List.map_set, e]
  rfl
theorem cp_at2 {K g : Int} {d : List UInt8} {k : Nat} {c : UInt8} (hd : d[k]? = some c) : (cpA ⟨K, g, d⟩)[2 + k]? = some (.int .u8 (c.toNat : Int)) := by
  rw [cpA, List.getElem?_toArray, show 2 + k = k + 1 + 1 by omega, cpV, List.getElem?_cons_succ, List.getElem?_cons_succ, List.getElem?_map, hd]
  rfl
end Go.Wag
namespace Go.Proofs.Ytagageidiebogaa
open Go.RowKit Go.Wag
set_option linter.unusedVariables false
set_option linter.unusedSimpArgs false
set_option maxRecDepth 20000
end Go.Proofs.Ytagageidiebogaa

/-
  Contract of the document's Alike of images (written by gen_imref5.py).
-/
namespace Go.Proofs.Ytagageidiebogaa
open Go.RowKit Go.Wag
set_option linter.unusedVariables false
set_option linter.unusedSimpArgs false
set_option maxRecDepth 20000
set_option maxHeartbeats 4000000 in
theorem fAlike9_any {F F2 : Nat → Prop} (xs ys : List Cp) (A : Option Addr) (n c : Nat) (A2 : Option Addr) (n2 c2 : Nat) (w : World) (h : Rs cpE F w A n c xs) (h2 : Rs cpE F2 w A2 n2 c2 ys) :
    Calls Try.prog 15 #[.slice A n c, .slice A2 n2 c2] w fun e w' => e = .returned (.bool (alikeF xs ys)) ∧ Below w.heap.size w w' := by
  have HN : Hid (xs.length = n) := h.len
  have HN2 : Hid (ys.length = n2) := h2.len
  have hcap := h.cap
  have hbig := h.big
  have hcap2 := h2.cap
  have hbig2 := h2.big
  by_cases hnn : n = n2
  · subst hnn
    have hne : ((n : Int) != (n : Int)) = false := by simp
    go_enter Try.func15, Try.ntmps15
    go_wp2_with fail
    go_loopg [5] n (fun q i wr => ∃ k : Nat, k + q = n ∧ i = .int .i64 (k : Int) ∧ Hid (∀ (j : Nat) (x y : Cp), j < k → xs[j]? = some x → ys[j]? = some y → x.k = y.k ∧ x.d = y.d) ∧ Below w.heap.size w wr)
    case atStart => exact ⟨0, by omega, rfl, fun j x y hj => absurd hj (by omega), Below.refl _ _⟩
    case round =>
      obtain ⟨k, hk, rfl, hall, bb⟩ := hrel
      by_cases hlt : (k : Int) < (n : Int)
      · obtain ⟨q, rfl⟩ : ∃ q, gk = q + 1 := ⟨gk - 1, by omega⟩
        obtain ⟨g1, o1, x, rfl, _, hg1, hz1, D1⟩ := h.cp_at (show k < n by omega)
        obtain ⟨g2, o2, y, rfl, _, hg2, hz2, D2⟩ := h2.cp_at (show k < n by omega)
        have C1 := D1.below bb hg1
        have C2 := D2.below bb hg2
        have v1 := C1.kind
        have v2 := C2.kind
        have hE := eqD C1.1.len C2.1.len
        have hG := guardD
        clear D1 D2
        have l1 : g1 < wr.heap.size := by have := bb.size; omega
        have l2 : g2 < wr.heap.size := by have := bb.size; omega
        by_cases hkk : x.k = y.k
        · have kb : (y.k != y.k) = false := by simp
          by_cases hdd : x.d = y.d
          · have hnx : Hid (∀ (j : Nat) (u v : Cp), j < k + 1 → xs[j]? = some u → ys[j]? = some v → u.k = v.k ∧ u.d = v.d) := fun j u v hj hu hv => by
              by_cases hjk : j = k
              · subst hjk
                rw [hz1] at hu
                rw [hz2] at hv
                cases hu
                cases hv
                exact ⟨hkk, hdd⟩
              · exact hall.out j u v (by omega) hu hv
            rw [decide_eq_true hdd] at hE
            rw [hkk] at v1
            clear hz1 hz2 hkk hdd hall
            go_wp2_with fail
            refine wp_region_held_drew (S := fun w' => Below wr.heap.size wr w') (by kernel_rfl) (Below.refl _ _).drew (fun hHeld => ?_)
            try dsimp only at hHeld
            generalize wr.drew = wd at *
            try simp only [Act.put, List.setIfInBounds_toArray, List.set_cons_zero, List.set_cons_succ]
            refine wpAnyH_take (i := 0) (v := ?_) (by simp only [List.getElem?_toArray, List.getElem?_cons_zero]; rfl) (by kernel_rfl) (by kernel_rfl) (by kernel_rfl) (by intro _ _ _ h; exact h) (Or.inl ⟨by rfl, ?_⟩) hHeld ?_
            rotate_left 1
            · intro wq hSw
              try dsimp only at hSw
              go_simp
              try (with_reducible rfl)
            try simp only [Act.put, List.setIfInBounds_toArray, List.set_cons_zero, List.set_cons_succ]
            refine wpAnyH_take (i := 1) (v := ?_) (by simp only [List.getElem?_toArray, List.getElem?_cons_succ, List.getElem?_cons_zero]; rfl) (by kernel_rfl) (by kernel_rfl) (by kernel_rfl) (by intro _ _ _ h; exact h) (Or.inl ⟨by rfl, ?_⟩) hHeld ?_
            rotate_left 1
            · intro wq hSw
              try dsimp only at hSw
              go_simp
              try (with_reducible rfl)
            try simp only [Act.put, List.setIfInBounds_toArray, List.set_cons_zero, List.set_cons_succ]
            refine wpAnyH_take (i := 2) (v := ?_) (by simp only [List.getElem?_toArray, List.getElem?_cons_succ, List.getElem?_cons_zero]; rfl) (by kernel_rfl) (by kernel_rfl) (by kernel_rfl) (by intro _ _ _ h; exact h) (Or.inl ⟨by rfl, ?_⟩) hHeld ?_
            rotate_left 1
            · intro wq hSw
              try dsimp only at hSw
              go_simp
              try (with_reducible rfl)
            try simp only [Act.put, List.setIfInBounds_toArray, List.set_cons_zero, List.set_cons_succ]
            refine wpAnyH_take (i := 3) (v := ?_) (by simp only [List.getElem?_toArray, List.getElem?_cons_succ, List.getElem?_cons_zero]; rfl) (by kernel_rfl) (by kernel_rfl) (by kernel_rfl) (by intro _ _ _ h; exact h) (Or.inl ⟨by rfl, ?_⟩) hHeld ?_
            rotate_left 1
            · intro wq hSw
              try dsimp only at hSw
              go_simp
              try (with_reducible rfl)
            try simp only [Act.put, List.setIfInBounds_toArray, List.set_cons_zero, List.set_cons_succ]
            refine wpAnyH_take (i := 4) (v := ?_) (by simp only [List.getElem?_toArray, List.getElem?_cons_succ, List.getElem?_cons_zero]; rfl) (by kernel_rfl) (by kernel_rfl) (by kernel_rfl) (by intro _ _ _ h; exact h) (Or.inl ⟨by rfl, ?_⟩) hHeld ?_
            rotate_left 1
            · intro wq hSw
              try dsimp only at hSw
              have y0 := (hSw.cell l1).trans v1
              go_simp
              try (with_reducible rfl)
            try simp only [Act.put, List.setIfInBounds_toArray, List.set_cons_zero, List.set_cons_succ]
            refine wpAnyH_take (i := 5) (v := ?_) (by simp only [List.getElem?_toArray, List.getElem?_cons_succ, List.getElem?_cons_zero]; rfl) (by kernel_rfl) (by kernel_rfl) (by kernel_rfl) (by intro _ _ _ h; exact h) (Or.inl ⟨by rfl, ?_⟩) hHeld ?_
            rotate_left 1
            · intro wq hSw
              try dsimp only at hSw
              go_simp
              try (with_reducible rfl)
            try simp only [Act.put, List.setIfInBounds_toArray, List.set_cons_zero, List.set_cons_succ]
            refine wpAnyH_take (i := 6) (v := ?_) (by simp only [List.getElem?_toArray, List.getElem?_cons_succ, List.getElem?_cons_zero]; rfl) (by kernel_rfl) (by kernel_rfl) (by kernel_rfl) (by intro _ _ _ h; exact h) (Or.inl ⟨by rfl, ?_⟩) hHeld ?_
            rotate_left 1
            · intro wq hSw
              try dsimp only at hSw
              go_simp
              try (with_reducible rfl)
            try simp only [Act.put, List.setIfInBounds_toArray, List.set_cons_zero, List.set_cons_succ]
            refine wpAnyH_take (i := 7) (v := ?_) (by simp only [List.getElem?_toArray, List.getElem?_cons_succ, List.getElem?_cons_zero]; rfl) (by kernel_rfl) (by kernel_rfl) (by kernel_rfl) (by intro _ _ _ h; exact h) (Or.inl ⟨by rfl, ?_⟩) hHeld ?_
            rotate_left 1
            · intro wq hSw
              try dsimp only at hSw
              go_simp
              try (with_reducible rfl)
            try simp only [Act.put, List.setIfInBounds_toArray, List.set_cons_zero, List.set_cons_succ]
            refine wpAnyH_take (i := 8) (v := ?_) (by simp only [List.getElem?_toArray, List.getElem?_cons_succ, List.getElem?_cons_zero]; rfl) (by kernel_rfl) (by kernel_rfl) (by kernel_rfl) (by intro _ _ _ h; exact h) (Or.inl ⟨by rfl, ?_⟩) hHeld ?_
            rotate_left 1
            · intro wq hSw
              try dsimp only at hSw
              go_simp
              try (with_reducible rfl)
            try simp only [Act.put, List.setIfInBounds_toArray, List.set_cons_zero, List.set_cons_succ]
            refine wpAnyH_take (i := 9) (v := ?_) (by simp only [List.getElem?_toArray, List.getElem?_cons_succ, List.getElem?_cons_zero]; rfl) (by kernel_rfl) (by kernel_rfl) (by kernel_rfl) (by intro _ _ _ h; exact h) (Or.inl ⟨by rfl, ?_⟩) hHeld ?_
            rotate_left 1
            · intro wq hSw
              try dsimp only at hSw
              have y0 := (hSw.cell l2).trans v2
              go_simp
              try (with_reducible rfl)
            try simp only [Act.put, List.setIfInBounds_toArray, List.set_cons_zero, List.set_cons_succ]
            refine wpAnyH_take (i := 10) (v := (.bool false)) (by simp only [List.getElem?_toArray, List.getElem?_cons_succ, List.getElem?_cons_zero]; rfl) (by kernel_rfl) (by kernel_rfl) (by kernel_rfl) (by intro _ _ _ h; exact h) (Or.inl ⟨by rfl, ?_⟩) hHeld ?_
            · intro wq hSw
              try dsimp only at hSw
              go_simp
              try (first | omega | (simp; omega))
              try rfl
            try simp only [Act.put, List.setIfInBounds_toArray, List.set_cons_zero, List.set_cons_succ]
            refine wpAnyH_take (i := 11) (v := (.bool false)) (by simp only [List.getElem?_toArray, List.getElem?_cons_succ, List.getElem?_cons_zero]; rfl) (by kernel_rfl) (by kernel_rfl) (by kernel_rfl) (by intro _ _ _ h; exact h) (Or.inl ⟨by rfl, ?_⟩) hHeld ?_
            · intro wq hSw
              try dsimp only at hSw
              go_simp
              try (first | omega | (simp; omega))
              try rfl
            try simp only [Act.put, List.setIfInBounds_toArray, List.set_cons_zero, List.set_cons_succ]
            refine wpAnyH_take (i := 12) (v := ?_) (by simp only [List.getElem?_toArray, List.getElem?_cons_succ, List.getElem?_cons_zero]; rfl) (by kernel_rfl) (by kernel_rfl) (by kernel_rfl) (by intro _ _ _ h; exact h) (Or.inl ⟨by rfl, ?_⟩) hHeld ?_
            rotate_left 1
            · intro wq hSw
              try dsimp only at hSw
              go_simp
              try (with_reducible rfl)
            try simp only [Act.put, List.setIfInBounds_toArray, List.set_cons_zero, List.set_cons_succ]
            refine wpAnyH_take (i := 13) (v := ?_) (by simp only [List.getElem?_toArray, List.getElem?_cons_succ, List.getElem?_cons_zero]; rfl) (by kernel_rfl) (by kernel_rfl) (by kernel_rfl) (by intro _ _ _ h; exact h) (Or.inl ⟨by rfl, ?_⟩) hHeld ?_
            rotate_left 1
            · intro wq hSw
              try dsimp only at hSw
              go_simp
              try (with_reducible rfl)
            try simp only [Act.put, List.setIfInBounds_toArray, List.set_cons_zero, List.set_cons_succ]
            refine wpAnyH_take (i := 14) (v := ?_) (by simp only [List.getElem?_toArray, List.getElem?_cons_succ, List.getElem?_cons_zero]; rfl) (by kernel_rfl) (by kernel_rfl) (by kernel_rfl) (by intro _ _ _ h; exact h) (Or.inl ⟨by rfl, ?_⟩) hHeld ?_
            rotate_left 1
            · intro wq hSw
              try dsimp only at hSw
              go_simp
              try (with_reducible rfl)
            try simp only [Act.put, List.setIfInBounds_toArray, List.set_cons_zero, List.set_cons_succ]
            refine wpAnyH_take (i := 15) (v := ?_) (by simp only [List.getElem?_toArray, List.getElem?_cons_succ, List.getElem?_cons_zero]; rfl) (by kernel_rfl) (by kernel_rfl) (by kernel_rfl) (by intro _ _ _ h; exact h) (Or.inl ⟨by rfl, ?_⟩) hHeld ?_
            rotate_left 1
            · intro wq hSw
              try dsimp only at hSw
              go_simp
              try (with_reducible rfl)
            try simp only [Act.put, List.setIfInBounds_toArray, List.set_cons_zero, List.set_cons_succ]
            refine wpAnyH_take (i := 16) (v := (.agg (dA x.d))) (by simp only [List.getElem?_toArray, List.getElem?_cons_succ, List.getElem?_cons_zero]; rfl) (by kernel_rfl) (by kernel_rfl) (by kernel_rfl) (by intro _ _ _ h; exact h) (Or.inl ⟨by rfl, ?_⟩) hHeld ?_
            · intro wq hSw
              try dsimp only at hSw
              exact exec_loadL 44 (.tmp 32) rfl rfl (cs := x.d.map v8) (fun j v hj => by
                rw [Nat.add_assoc]
                exact (hSw.cell l1).trans (C1.2 (2 + j) v (by rw [cpV, show 2 + j = j + 1 + 1 by omega]; exact hj))) Try.underlying44 rfl (by rw [List.length_map, C1.1.len]; exact szD)
            try simp only [Act.put, List.setIfInBounds_toArray, List.set_cons_zero, List.set_cons_succ]
            refine wpAnyH_take (i := 17) (v := ?_) (by simp only [List.getElem?_toArray, List.getElem?_cons_succ, List.getElem?_cons_zero]; rfl) (by kernel_rfl) (by kernel_rfl) (by kernel_rfl) (by intro _ _ _ h; exact h) (Or.inl ⟨by rfl, ?_⟩) hHeld ?_
            rotate_left 1
            · intro wq hSw
              try dsimp only at hSw
              go_simp
              try (with_reducible rfl)
            try simp only [Act.put, List.setIfInBounds_toArray, List.set_cons_zero, List.set_cons_succ]
            refine wpAnyH_take (i := 18) (v := ?_) (by simp only [List.getElem?_toArray, List.getElem?_cons_succ, List.getElem?_cons_zero]; rfl) (by kernel_rfl) (by kernel_rfl) (by kernel_rfl) (by intro _ _ _ h; exact h) (Or.inl ⟨by rfl, ?_⟩) hHeld ?_
            rotate_left 1
            · intro wq hSw
              try dsimp only at hSw
              go_simp
              try (with_reducible rfl)
            try simp only [Act.put, List.setIfInBounds_toArray, List.set_cons_zero, List.set_cons_succ]
            refine wpAnyH_take (i := 19) (v := ?_) (by simp only [List.getElem?_toArray, List.getElem?_cons_succ, List.getElem?_cons_zero]; rfl) (by kernel_rfl) (by kernel_rfl) (by kernel_rfl) (by intro _ _ _ h; exact h) (Or.inl ⟨by rfl, ?_⟩) hHeld ?_
            rotate_left 1
            · intro wq hSw
              try dsimp only at hSw
              go_simp
              try (with_reducible rfl)
            try simp only [Act.put, List.setIfInBounds_toArray, List.set_cons_zero, List.set_cons_succ]
            refine wpAnyH_take (i := 20) (v := ?_) (by simp only [List.getElem?_toArray, List.getElem?_cons_succ, List.getElem?_cons_zero]; rfl) (by kernel_rfl) (by kernel_rfl) (by kernel_rfl) (by intro _ _ _ h; exact h) (Or.inl ⟨by rfl, ?_⟩) hHeld ?_
            rotate_left 1
            · intro wq hSw
              try dsimp only at hSw
              go_simp
              try (with_reducible rfl)
            try simp only [Act.put, List.setIfInBounds_toArray, List.set_cons_zero, List.set_cons_succ]
            refine wpAnyH_take (i := 21) (v := (.agg (dA y.d))) (by simp only [List.getElem?_toArray, List.getElem?_cons_succ, List.getElem?_cons_zero]; rfl) (by kernel_rfl) (by kernel_rfl) (by kernel_rfl) (by intro _ _ _ h; exact h) (Or.inl ⟨by rfl, ?_⟩) hHeld ?_
            · intro wq hSw
              try dsimp only at hSw
              exact exec_loadL 44 (.tmp 37) rfl rfl (cs := y.d.map v8) (fun j v hj => by
                rw [Nat.add_assoc]
                exact (hSw.cell l2).trans (C2.2 (2 + j) v (by rw [cpV, show 2 + j = j + 1 + 1 by omega]; exact hj))) Try.underlying44 rfl (by rw [List.length_map, C2.1.len]; exact szD)
            try simp only [Act.put, List.setIfInBounds_toArray, List.set_cons_zero, List.set_cons_succ]
            refine wpAnyH_take (i := 22) (v := (.bool false)) (by simp only [List.getElem?_toArray, List.getElem?_cons_succ, List.getElem?_cons_zero]; rfl) (by kernel_rfl) (by kernel_rfl) (by kernel_rfl) (by intro _ _ _ h; exact h) (Or.inl ⟨by rfl, ?_⟩) hHeld ?_
            · intro wq hSw
              try dsimp only at hSw
              go_simp
              try (first | omega | (simp; omega))
              try rfl
            try simp only [Act.put, List.setIfInBounds_toArray, List.set_cons_zero, List.set_cons_succ]
            refine wpAnyH_take (i := 23) (v := (.bool false)) (by simp only [List.getElem?_toArray, List.getElem?_cons_succ, List.getElem?_cons_zero]; rfl) (by kernel_rfl) (by kernel_rfl) (by kernel_rfl) (by intro _ _ _ h; exact h) (Or.inl ⟨by rfl, ?_⟩) hHeld ?_
            · intro wq hSw
              try dsimp only at hSw
              go_simp
              try (first | omega | (simp; omega))
              try rfl
            try simp only [Act.put, List.setIfInBounds_toArray, List.set_cons_zero, List.set_cons_succ]
            refine wpAnyH_done (by kernel_rfl) ?_ _
            replace bb := bb.trans (hHeld.mono bb.size)
            clear hHeld
            go_wp2
            go_roundg q
            case measure => omega
            case rel => exact ⟨k + 1, by omega, by first | rfl | (simp; done) | (simp; exact wrap64_small (by omega) (by omega)), hnx, bb⟩
          · have hno := Lib.hid (alike_no hz1 hz2 (fun hh => hdd hh.2))
            rw [decide_eq_false hdd] at hE
            rw [hkk] at v1
            clear hz1 hz2 hkk hdd hall
            go_wp2_with fail
            refine wp_region_held_drew (S := fun w' => Below wr.heap.size wr w') (by kernel_rfl) (Below.refl _ _).drew (fun hHeld => ?_)
            try dsimp only at hHeld
            generalize wr.drew = wd at *
            try simp only [Act.put, List.setIfInBounds_toArray, List.set_cons_zero, List.set_cons_succ]
            refine wpAnyH_take (i := 0) (v := ?_) (by simp only [List.getElem?_toArray, List.getElem?_cons_zero]; rfl) (by kernel_rfl) (by kernel_rfl) (by kernel_rfl) (by intro _ _ _ h; exact h) (Or.inl ⟨by rfl, ?_⟩) hHeld ?_
            rotate_left 1
            · intro wq hSw
              try dsimp only at hSw
              go_simp
              try (with_reducible rfl)
            try simp only [Act.put, List.setIfInBounds_toArray, List.set_cons_zero, List.set_cons_succ]
            refine wpAnyH_take (i := 1) (v := ?_) (by simp only [List.getElem?_toArray, List.getElem?_cons_succ, List.getElem?_cons_zero]; rfl) (by kernel_rfl) (by kernel_rfl) (by kernel_rfl) (by intro _ _ _ h; exact h) (Or.inl ⟨by rfl, ?_⟩) hHeld ?_
            rotate_left 1
            · intro wq hSw
              try dsimp only at hSw
              go_simp
              try (with_reducible rfl)
            try simp only [Act.put, List.setIfInBounds_toArray, List.set_cons_zero, List.set_cons_succ]
            refine wpAnyH_take (i := 2) (v := ?_) (by simp only [List.getElem?_toArray, List.getElem?_cons_succ, List.getElem?_cons_zero]; rfl) (by kernel_rfl) (by kernel_rfl) (by kernel_rfl) (by intro _ _ _ h; exact h) (Or.inl ⟨by rfl, ?_⟩) hHeld ?_
            rotate_left 1
            · intro wq hSw
              try dsimp only at hSw
              go_simp
              try (with_reducible rfl)
            try simp only [Act.put, List.setIfInBounds_toArray, List.set_cons_zero, List.set_cons_succ]
            refine wpAnyH_take (i := 3) (v := ?_) (by simp only [List.getElem?_toArray, List.getElem?_cons_succ, List.getElem?_cons_zero]; rfl) (by kernel_rfl) (by kernel_rfl) (by kernel_rfl) (by intro _ _ _ h; exact h) (Or.inl ⟨by rfl, ?_⟩) hHeld ?_
            rotate_left 1
            · intro wq hSw
              try dsimp only at hSw
              go_simp
              try (with_reducible rfl)
            try simp only [Act.put, List.setIfInBounds_toArray, List.set_cons_zero, List.set_cons_succ]
            refine wpAnyH_take (i := 4) (v := ?_) (by simp only [List.getElem?_toArray, List.getElem?_cons_succ, List.getElem?_cons_zero]; rfl) (by kernel_rfl) (by kernel_rfl) (by kernel_rfl) (by intro _ _ _ h; exact h) (Or.inl ⟨by rfl, ?_⟩) hHeld ?_
            rotate_left 1
            · intro wq hSw
              try dsimp only at hSw
              have y0 := (hSw.cell l1).trans v1
              go_simp
              try (with_reducible rfl)
            try simp only [Act.put, List.setIfInBounds_toArray, List.set_cons_zero, List.set_cons_succ]
            refine wpAnyH_take (i := 5) (v := ?_) (by simp only [List.getElem?_toArray, List.getElem?_cons_succ, List.getElem?_cons_zero]; rfl) (by kernel_rfl) (by kernel_rfl) (by kernel_rfl) (by intro _ _ _ h; exact h) (Or.inl ⟨by rfl, ?_⟩) hHeld ?_
            rotate_left 1
            · intro wq hSw
              try dsimp only at hSw
              go_simp
              try (with_reducible rfl)
            try simp only [Act.put, List.setIfInBounds_toArray, List.set_cons_zero, List.set_cons_succ]
            refine wpAnyH_take (i := 6) (v := ?_) (by simp only [List.getElem?_toArray, List.getElem?_cons_succ, List.getElem?_cons_zero]; rfl) (by kernel_rfl) (by kernel_rfl) (by kernel_rfl) (by intro _ _ _ h; exact h) (Or.inl ⟨by rfl, ?_⟩) hHeld ?_
            rotate_left 1
            · intro wq hSw
              try dsimp only at hSw
              go_simp
              try (with_reducible rfl)
            try simp only [Act.put, List.setIfInBounds_toArray, List.set_cons_zero, List.set_cons_succ]
            refine wpAnyH_take (i := 7) (v := ?_) (by simp only [List.getElem?_toArray, List.getElem?_cons_succ, List.getElem?_cons_zero]; rfl) (by kernel_rfl) (by kernel_rfl) (by kernel_rfl) (by intro _ _ _ h; exact h) (Or.inl ⟨by rfl, ?_⟩) hHeld ?_
            rotate_left 1
            · intro wq hSw
              try dsimp only at hSw
              go_simp
              try (with_reducible rfl)
            try simp only [Act.put, List.setIfInBounds_toArray, List.set_cons_zero, List.set_cons_succ]
            refine wpAnyH_take (i := 8) (v := ?_) (by simp only [List.getElem?_toArray, List.getElem?_cons_succ, List.getElem?_cons_zero]; rfl) (by kernel_rfl) (by kernel_rfl) (by kernel_rfl) (by intro _ _ _ h; exact h) (Or.inl ⟨by rfl, ?_⟩) hHeld ?_
            rotate_left 1
            · intro wq hSw
              try dsimp only at hSw
              go_simp
              try (with_reducible rfl)
            try simp only [Act.put, List.setIfInBounds_toArray, List.set_cons_zero, List.set_cons_succ]
            refine wpAnyH_take (i := 9) (v := ?_) (by simp only [List.getElem?_toArray, List.getElem?_cons_succ, List.getElem?_cons_zero]; rfl) (by kernel_rfl) (by kernel_rfl) (by kernel_rfl) (by intro _ _ _ h; exact h) (Or.inl ⟨by rfl, ?_⟩) hHeld ?_
            rotate_left 1
            · intro wq hSw
              try dsimp only at hSw
              have y0 := (hSw.cell l2).trans v2
              go_simp
              try (with_reducible rfl)
            try simp only [Act.put, List.setIfInBounds_toArray, List.set_cons_zero, List.set_cons_succ]
            refine wpAnyH_take (i := 10) (v := (.bool false)) (by simp only [List.getElem?_toArray, List.getElem?_cons_succ, List.getElem?_cons_zero]; rfl) (by kernel_rfl) (by kernel_rfl) (by kernel_rfl) (by intro _ _ _ h; exact h) (Or.inl ⟨by rfl, ?_⟩) hHeld ?_
            · intro wq hSw
              try dsimp only at hSw
              go_simp
              try (first | omega | (simp; omega))
              try rfl
            try simp only [Act.put, List.setIfInBounds_toArray, List.set_cons_zero, List.set_cons_succ]
            refine wpAnyH_take (i := 11) (v := (.bool false)) (by simp only [List.getElem?_toArray, List.getElem?_cons_succ, List.getElem?_cons_zero]; rfl) (by kernel_rfl) (by kernel_rfl) (by kernel_rfl) (by intro _ _ _ h; exact h) (Or.inl ⟨by rfl, ?_⟩) hHeld ?_
            · intro wq hSw
              try dsimp only at hSw
              go_simp
              try (first | omega | (simp; omega))
              try rfl
            try simp only [Act.put, List.setIfInBounds_toArray, List.set_cons_zero, List.set_cons_succ]
            refine wpAnyH_take (i := 12) (v := ?_) (by simp only [List.getElem?_toArray, List.getElem?_cons_succ, List.getElem?_cons_zero]; rfl) (by kernel_rfl) (by kernel_rfl) (by kernel_rfl) (by intro _ _ _ h; exact h) (Or.inl ⟨by rfl, ?_⟩) hHeld ?_
            rotate_left 1
            · intro wq hSw
              try dsimp only at hSw
              go_simp
              try (with_reducible rfl)
            try simp only [Act.put, List.setIfInBounds_toArray, List.set_cons_zero, List.set_cons_succ]
            refine wpAnyH_take (i := 13) (v := ?_) (by simp only [List.getElem?_toArray, List.getElem?_cons_succ, List.getElem?_cons_zero]; rfl) (by kernel_rfl) (by kernel_rfl) (by kernel_rfl) (by intro _ _ _ h; exact h) (Or.inl ⟨by rfl, ?_⟩) hHeld ?_
            rotate_left 1
            · intro wq hSw
              try dsimp only at hSw
              go_simp
              try (with_reducible rfl)
            try simp only [Act.put, List.setIfInBounds_toArray, List.set_cons_zero, List.set_cons_succ]
            refine wpAnyH_take (i := 14) (v := ?_) (by simp only [List.getElem?_toArray, List.getElem?_cons_succ, List.getElem?_cons_zero]; rfl) (by kernel_rfl) (by kernel_rfl) (by kernel_rfl) (by intro _ _ _ h; exact h) (Or.inl ⟨by rfl, ?_⟩) hHeld ?_
            rotate_left 1
            · intro wq hSw
              try dsimp only at hSw
              go_simp
              try (with_reducible rfl)
            try simp only [Act.put, List.setIfInBounds_toArray, List.set_cons_zero, List.set_cons_succ]
            refine wpAnyH_take (i := 15) (v := ?_) (by simp only [List.getElem?_toArray, List.getElem?_cons_succ, List.getElem?_cons_zero]; rfl) (by kernel_rfl) (by kernel_rfl) (by kernel_rfl) (by intro _ _ _ h; exact h) (Or.inl ⟨by rfl, ?_⟩) hHeld ?_
            rotate_left 1
            · intro wq hSw
              try dsimp only at hSw
              go_simp
              try (with_reducible rfl)
            try simp only [Act.put, List.setIfInBounds_toArray, List.set_cons_zero, List.set_cons_succ]
            refine wpAnyH_take (i := 16) (v := (.agg (dA x.d))) (by simp only [List.getElem?_toArray, List.getElem?_cons_succ, List.getElem?_cons_zero]; rfl) (by kernel_rfl) (by kernel_rfl) (by kernel_rfl) (by intro _ _ _ h; exact h) (Or.inl ⟨by rfl, ?_⟩) hHeld ?_
            · intro wq hSw
              try dsimp only at hSw
              exact exec_loadL 44 (.tmp 32) rfl rfl (cs := x.d.map v8) (fun j v hj => by
                rw [Nat.add_assoc]
                exact (hSw.cell l1).trans (C1.2 (2 + j) v (by rw [cpV, show 2 + j = j + 1 + 1 by omega]; exact hj))) Try.underlying44 rfl (by rw [List.length_map, C1.1.len]; exact szD)
            try simp only [Act.put, List.setIfInBounds_toArray, List.set_cons_zero, List.set_cons_succ]
            refine wpAnyH_take (i := 17) (v := ?_) (by simp only [List.getElem?_toArray, List.getElem?_cons_succ, List.getElem?_cons_zero]; rfl) (by kernel_rfl) (by kernel_rfl) (by kernel_rfl) (by intro _ _ _ h; exact h) (Or.inl ⟨by rfl, ?_⟩) hHeld ?_
            rotate_left 1
            · intro wq hSw
              try dsimp only at hSw
              go_simp
              try (with_reducible rfl)
            try simp only [Act.put, List.setIfInBounds_toArray, List.set_cons_zero, List.set_cons_succ]
            refine wpAnyH_take (i := 18) (v := ?_) (by simp only [List.getElem?_toArray, List.getElem?_cons_succ, List.getElem?_cons_zero]; rfl) (by kernel_rfl) (by kernel_rfl) (by kernel_rfl) (by intro _ _ _ h; exact h) (Or.inl ⟨by rfl, ?_⟩) hHeld ?_
            rotate_left 1
            · intro wq hSw
              try dsimp only at hSw
              go_simp
              try (with_reducible rfl)
            try simp only [Act.put, List.setIfInBounds_toArray, List.set_cons_zero, List.set_cons_succ]
            refine wpAnyH_take (i := 19) (v := ?_) (by simp only [List.getElem?_toArray, List.getElem?_cons_succ, List.getElem?_cons_zero]; rfl) (by kernel_rfl) (by kernel_rfl) (by kernel_rfl) (by intro _ _ _ h; exact h) (Or.inl ⟨by rfl, ?_⟩) hHeld ?_
            rotate_left 1
            · intro wq hSw
              try dsimp only at hSw
              go_simp
              try (with_reducible rfl)
            try simp only [Act.put, List.setIfInBounds_toArray, List.set_cons_zero, List.set_cons_succ]
            refine wpAnyH_take (i := 20) (v := ?_) (by simp only [List.getElem?_toArray, List.getElem?_cons_succ, List.getElem?_cons_zero]; rfl) (by kernel_rfl) (by kernel_rfl) (by kernel_rfl) (by intro _ _ _ h; exact h) (Or.inl ⟨by rfl, ?_⟩) hHeld ?_
            rotate_left 1
            · intro wq hSw
              try dsimp only at hSw
              go_simp
              try (with_reducible rfl)
            try simp only [Act.put, List.setIfInBounds_toArray, List.set_cons_zero, List.set_cons_succ]
            refine wpAnyH_take (i := 21) (v := (.agg (dA y.d))) (by simp only [List.getElem?_toArray, List.getElem?_cons_succ, List.getElem?_cons_zero]; rfl) (by kernel_rfl) (by kernel_rfl) (by kernel_rfl) (by intro _ _ _ h; exact h) (Or.inl ⟨by rfl, ?_⟩) hHeld ?_
            · intro wq hSw
              try dsimp only at hSw
              exact exec_loadL 44 (.tmp 37) rfl rfl (cs := y.d.map v8) (fun j v hj => by
                rw [Nat.add_assoc]
                exact (hSw.cell l2).trans (C2.2 (2 + j) v (by rw [cpV, show 2 + j = j + 1 + 1 by omega]; exact hj))) Try.underlying44 rfl (by rw [List.length_map, C2.1.len]; exact szD)
            try simp only [Act.put, List.setIfInBounds_toArray, List.set_cons_zero, List.set_cons_succ]
            refine wpAnyH_take (i := 22) (v := (.bool true)) (by simp only [List.getElem?_toArray, List.getElem?_cons_succ, List.getElem?_cons_zero]; rfl) (by kernel_rfl) (by kernel_rfl) (by kernel_rfl) (by intro _ _ _ h; exact h) (Or.inl ⟨by rfl, ?_⟩) hHeld ?_
            · intro wq hSw
              try dsimp only at hSw
              go_simp
              try (first | omega | (simp; omega))
              try rfl
            try simp only [Act.put, List.setIfInBounds_toArray, List.set_cons_zero, List.set_cons_succ]
            refine wpAnyH_take (i := 23) (v := (.bool true)) (by simp only [List.getElem?_toArray, List.getElem?_cons_succ, List.getElem?_cons_zero]; rfl) (by kernel_rfl) (by kernel_rfl) (by kernel_rfl) (by intro _ _ _ h; exact h) (Or.inl ⟨by rfl, ?_⟩) hHeld ?_
            · intro wq hSw
              try dsimp only at hSw
              go_simp
              try (first | omega | (simp; omega))
              try rfl
            try simp only [Act.put, List.setIfInBounds_toArray, List.set_cons_zero, List.set_cons_succ]
            refine wpAnyH_done (by kernel_rfl) ?_ _
            replace bb := bb.trans (hHeld.mono bb.size)
            clear hHeld
            go_wp2
            go_ret
            rw [hno.out]
            exact ⟨rfl, bb⟩
        · have kb : (x.k != y.k) = true := by simp [hkk]
          have hno := Lib.hid (alike_no hz1 hz2 (fun hh => hkk hh.1))
          clear hz1 hz2 hall
          go_wp2_with fail
          refine wp_region_held_drew (S := fun w' => Below wr.heap.size wr w') (by kernel_rfl) (Below.refl _ _).drew (fun hHeld => ?_)
          try dsimp only at hHeld
          generalize wr.drew = wd at *
          try simp only [Act.put, List.setIfInBounds_toArray, List.set_cons_zero, List.set_cons_succ]
          refine wpAnyH_take (i := 0) (v := ?_) (by simp only [List.getElem?_toArray, List.getElem?_cons_zero]; rfl) (by kernel_rfl) (by kernel_rfl) (by kernel_rfl) (by intro _ _ _ h; exact h) (Or.inl ⟨by rfl, ?_⟩) hHeld ?_
          rotate_left 1
          · intro wq hSw
            try dsimp only at hSw
            go_simp
            try (with_reducible rfl)
          try simp only [Act.put, List.setIfInBounds_toArray, List.set_cons_zero, List.set_cons_succ]
          refine wpAnyH_take (i := 1) (v := ?_) (by simp only [List.getElem?_toArray, List.getElem?_cons_succ, List.getElem?_cons_zero]; rfl) (by kernel_rfl) (by kernel_rfl) (by kernel_rfl) (by intro _ _ _ h; exact h) (Or.inl ⟨by rfl, ?_⟩) hHeld ?_
          rotate_left 1
          · intro wq hSw
            try dsimp only at hSw
            go_simp
            try (with_reducible rfl)
          try simp only [Act.put, List.setIfInBounds_toArray, List.set_cons_zero, List.set_cons_succ]
          refine wpAnyH_take (i := 2) (v := ?_) (by simp only [List.getElem?_toArray, List.getElem?_cons_succ, List.getElem?_cons_zero]; rfl) (by kernel_rfl) (by kernel_rfl) (by kernel_rfl) (by intro _ _ _ h; exact h) (Or.inl ⟨by rfl, ?_⟩) hHeld ?_
          rotate_left 1
          · intro wq hSw
            try dsimp only at hSw
            go_simp
            try (with_reducible rfl)
          try simp only [Act.put, List.setIfInBounds_toArray, List.set_cons_zero, List.set_cons_succ]
          refine wpAnyH_take (i := 3) (v := ?_) (by simp only [List.getElem?_toArray, List.getElem?_cons_succ, List.getElem?_cons_zero]; rfl) (by kernel_rfl) (by kernel_rfl) (by kernel_rfl) (by intro _ _ _ h; exact h) (Or.inl ⟨by rfl, ?_⟩) hHeld ?_
          rotate_left 1
          · intro wq hSw
            try dsimp only at hSw
            go_simp
            try (with_reducible rfl)
          try simp only [Act.put, List.setIfInBounds_toArray, List.set_cons_zero, List.set_cons_succ]
          refine wpAnyH_take (i := 4) (v := ?_) (by simp only [List.getElem?_toArray, List.getElem?_cons_succ, List.getElem?_cons_zero]; rfl) (by kernel_rfl) (by kernel_rfl) (by kernel_rfl) (by intro _ _ _ h; exact h) (Or.inl ⟨by rfl, ?_⟩) hHeld ?_
          rotate_left 1
          · intro wq hSw
            try dsimp only at hSw
            have y0 := (hSw.cell l1).trans v1
            go_simp
            try (with_reducible rfl)
          try simp only [Act.put, List.setIfInBounds_toArray, List.set_cons_zero, List.set_cons_succ]
          refine wpAnyH_take (i := 5) (v := ?_) (by simp only [List.getElem?_toArray, List.getElem?_cons_succ, List.getElem?_cons_zero]; rfl) (by kernel_rfl) (by kernel_rfl) (by kernel_rfl) (by intro _ _ _ h; exact h) (Or.inl ⟨by rfl, ?_⟩) hHeld ?_
          rotate_left 1
          · intro wq hSw
            try dsimp only at hSw
            go_simp
            try (with_reducible rfl)
          try simp only [Act.put, List.setIfInBounds_toArray, List.set_cons_zero, List.set_cons_succ]
          refine wpAnyH_take (i := 6) (v := ?_) (by simp only [List.getElem?_toArray, List.getElem?_cons_succ, List.getElem?_cons_zero]; rfl) (by kernel_rfl) (by kernel_rfl) (by kernel_rfl) (by intro _ _ _ h; exact h) (Or.inl ⟨by rfl, ?_⟩) hHeld ?_
          rotate_left 1
          · intro wq hSw
            try dsimp only at hSw
            go_simp
            try (with_reducible rfl)
          try simp only [Act.put, List.setIfInBounds_toArray, List.set_cons_zero, List.set_cons_succ]
          refine wpAnyH_take (i := 7) (v := ?_) (by simp only [List.getElem?_toArray, List.getElem?_cons_succ, List.getElem?_cons_zero]; rfl) (by kernel_rfl) (by kernel_rfl) (by kernel_rfl) (by intro _ _ _ h; exact h) (Or.inl ⟨by rfl, ?_⟩) hHeld ?_
          rotate_left 1
          · intro wq hSw
            try dsimp only at hSw
            go_simp
            try (with_reducible rfl)
          try simp only [Act.put, List.setIfInBounds_toArray, List.set_cons_zero, List.set_cons_succ]
          refine wpAnyH_take (i := 8) (v := ?_) (by simp only [List.getElem?_toArray, List.getElem?_cons_succ, List.getElem?_cons_zero]; rfl) (by kernel_rfl) (by kernel_rfl) (by kernel_rfl) (by intro _ _ _ h; exact h) (Or.inl ⟨by rfl, ?_⟩) hHeld ?_
          rotate_left 1
          · intro wq hSw
            try dsimp only at hSw
            go_simp
            try (with_reducible rfl)
          try simp only [Act.put, List.setIfInBounds_toArray, List.set_cons_zero, List.set_cons_succ]
          refine wpAnyH_take (i := 9) (v := ?_) (by simp only [List.getElem?_toArray, List.getElem?_cons_succ, List.getElem?_cons_zero]; rfl) (by kernel_rfl) (by kernel_rfl) (by kernel_rfl) (by intro _ _ _ h; exact h) (Or.inl ⟨by rfl, ?_⟩) hHeld ?_
          rotate_left 1
          · intro wq hSw
            try dsimp only at hSw
            have y0 := (hSw.cell l2).trans v2
            go_simp
            try (with_reducible rfl)
          try simp only [Act.put, List.setIfInBounds_toArray, List.set_cons_zero, List.set_cons_succ]
          refine wpAnyH_take (i := 10) (v := (.bool true)) (by simp only [List.getElem?_toArray, List.getElem?_cons_succ, List.getElem?_cons_zero]; rfl) (by kernel_rfl) (by kernel_rfl) (by kernel_rfl) (by intro _ _ _ h; exact h) (Or.inl ⟨by rfl, ?_⟩) hHeld ?_
          · intro wq hSw
            try dsimp only at hSw
            go_simp
            try (first | omega | (simp; omega))
            try rfl
          try simp only [Act.put, List.setIfInBounds_toArray, List.set_cons_zero, List.set_cons_succ]
          refine wpAnyH_take (i := 11) (v := (.bool true)) (by simp only [List.getElem?_toArray, List.getElem?_cons_succ, List.getElem?_cons_zero]; rfl) (by kernel_rfl) (by kernel_rfl) (by kernel_rfl) (by intro _ _ _ h; exact h) (Or.inl ⟨by rfl, ?_⟩) hHeld ?_
          · intro wq hSw
            try dsimp only at hSw
            go_simp
            try (first | omega | (simp; omega))
            try rfl
          try simp only [Act.put, List.setIfInBounds_toArray, List.set_cons_zero, List.set_cons_succ]
          refine wpAnyH_take (i := 12) (v := undef) (by simp only [List.getElem?_toArray, List.getElem?_cons_succ, List.getElem?_cons_zero]; rfl) (by kernel_rfl) (by kernel_rfl) (by kernel_rfl) (by intro _ _ _ h; exact h) (Or.inr ⟨by rfl, rfl⟩) hHeld ?_
          try simp only [Act.put, List.setIfInBounds_toArray, List.set_cons_zero, List.set_cons_succ]
          refine wpAnyH_take (i := 13) (v := undef) (by simp only [List.getElem?_toArray, List.getElem?_cons_succ, List.getElem?_cons_zero]; rfl) (by kernel_rfl) (by kernel_rfl) (by kernel_rfl) (by intro _ _ _ h; exact h) (Or.inr ⟨by rfl, rfl⟩) hHeld ?_
          try simp only [Act.put, List.setIfInBounds_toArray, List.set_cons_zero, List.set_cons_succ]
          refine wpAnyH_take (i := 14) (v := undef) (by simp only [List.getElem?_toArray, List.getElem?_cons_succ, List.getElem?_cons_zero]; rfl) (by kernel_rfl) (by kernel_rfl) (by kernel_rfl) (by intro _ _ _ h; exact h) (Or.inr ⟨by rfl, rfl⟩) hHeld ?_
          try simp only [Act.put, List.setIfInBounds_toArray, List.set_cons_zero, List.set_cons_succ]
          refine wpAnyH_take (i := 15) (v := undef) (by simp only [List.getElem?_toArray, List.getElem?_cons_succ, List.getElem?_cons_zero]; rfl) (by kernel_rfl) (by kernel_rfl) (by kernel_rfl) (by intro _ _ _ h; exact h) (Or.inr ⟨by rfl, rfl⟩) hHeld ?_
          try simp only [Act.put, List.setIfInBounds_toArray, List.set_cons_zero, List.set_cons_succ]
          refine wpAnyH_take (i := 16) (v := undef) (by simp only [List.getElem?_toArray, List.getElem?_cons_succ, List.getElem?_cons_zero]; rfl) (by kernel_rfl) (by kernel_rfl) (by kernel_rfl) (by intro _ _ _ h; exact h) (Or.inr ⟨by rfl, rfl⟩) hHeld ?_
          try simp only [Act.put, List.setIfInBounds_toArray, List.set_cons_zero, List.set_cons_succ]
          refine wpAnyH_take (i := 17) (v := undef) (by simp only [List.getElem?_toArray, List.getElem?_cons_succ, List.getElem?_cons_zero]; rfl) (by kernel_rfl) (by kernel_rfl) (by kernel_rfl) (by intro _ _ _ h; exact h) (Or.inr ⟨by rfl, rfl⟩) hHeld ?_
          try simp only [Act.put, List.setIfInBounds_toArray, List.set_cons_zero, List.set_cons_succ]
          refine wpAnyH_take (i := 18) (v := undef) (by simp only [List.getElem?_toArray, List.getElem?_cons_succ, List.getElem?_cons_zero]; rfl) (by kernel_rfl) (by kernel_rfl) (by kernel_rfl) (by intro _ _ _ h; exact h) (Or.inr ⟨by rfl, rfl⟩) hHeld ?_
          try simp only [Act.put, List.setIfInBounds_toArray, List.set_cons_zero, List.set_cons_succ]
          refine wpAnyH_take (i := 19) (v := undef) (by simp only [List.getElem?_toArray, List.getElem?_cons_succ, List.getElem?_cons_zero]; rfl) (by kernel_rfl) (by kernel_rfl) (by kernel_rfl) (by intro _ _ _ h; exact h) (Or.inr ⟨by rfl, rfl⟩) hHeld ?_
          try simp only [Act.put, List.setIfInBounds_toArray, List.set_cons_zero, List.set_cons_succ]
          refine wpAnyH_take (i := 20) (v := undef) (by simp only [List.getElem?_toArray, List.getElem?_cons_succ, List.getElem?_cons_zero]; rfl) (by kernel_rfl) (by kernel_rfl) (by kernel_rfl) (by intro _ _ _ h; exact h) (Or.inr ⟨by rfl, rfl⟩) hHeld ?_
          try simp only [Act.put, List.setIfInBounds_toArray, List.set_cons_zero, List.set_cons_succ]
          refine wpAnyH_take (i := 21) (v := undef) (by simp only [List.getElem?_toArray, List.getElem?_cons_succ, List.getElem?_cons_zero]; rfl) (by kernel_rfl) (by kernel_rfl) (by kernel_rfl) (by intro _ _ _ h; exact h) (Or.inr ⟨by rfl, rfl⟩) hHeld ?_
          try simp only [Act.put, List.setIfInBounds_toArray, List.set_cons_zero, List.set_cons_succ]
          refine wpAnyH_take (i := 22) (v := undef) (by simp only [List.getElem?_toArray, List.getElem?_cons_succ, List.getElem?_cons_zero]; rfl) (by kernel_rfl) (by kernel_rfl) (by kernel_rfl) (by intro _ _ _ h; exact h) (Or.inr ⟨by rfl, rfl⟩) hHeld ?_
          try simp only [Act.put, List.setIfInBounds_toArray, List.set_cons_zero, List.set_cons_succ]
          refine wpAnyH_take (i := 23) (v := (.bool true)) (by simp only [List.getElem?_toArray, List.getElem?_cons_succ, List.getElem?_cons_zero]; rfl) (by kernel_rfl) (by kernel_rfl) (by kernel_rfl) (by intro _ _ _ h; exact h) (Or.inl ⟨by rfl, ?_⟩) hHeld ?_
          · intro wq hSw
            try dsimp only at hSw
            go_simp
            try (first | omega | (simp; omega))
            try rfl
          try simp only [Act.put, List.setIfInBounds_toArray, List.set_cons_zero, List.set_cons_succ]
          refine wpAnyH_done (by kernel_rfl) ?_ _
          replace bb := bb.trans (hHeld.mono bb.size)
          clear hHeld
          go_wp2
          go_ret
          rw [hno.out]
          exact ⟨rfl, bb⟩
      · obtain rfl : k = n := by omega
        have hyes := Lib.hid ((alikeF_iff xs ys).2 ⟨by rw [HN.out, HN2.out], fun i x y h1 h2 => hall.out i x y (by have := (List.getElem?_eq_some_iff.1 h1).1; have := HN.out; omega) h1 h2⟩)
        go_wp2
        go_ret
        rw [hyes.out]
        exact ⟨rfl, bb⟩
  · have hne : ((n : Int) != (n2 : Int)) = true := by simp; omega
    have hno := Lib.hid (alike_len (l := xs) (m := ys) (by rw [HN.out, HN2.out]; exact hnn))
    replace hnn := Lib.hid hnn
    go_enter Try.func15, Try.ntmps15
    go_wp2
    go_ret
    rw [hno.out]
    exact ⟨rfl, Below.refl _ _⟩
end Go.Proofs.Ytagageidiebogaa

/-
  Contract of the document's Cells of extents (written by gen_imref6.py).
-/
namespace Go.Wag
open Go.RowKit
set_option linter.unusedVariables false
theorem setL_whole {w : World} {g : Nat} {t : TypeId} {u y : Cp} (B : Blk w g (cpA u) t) (hu : u.d.length = 32) (hy : y.d.length = 32) : Blk (setL w g 0 (cpV y)) g (cpA y) t := by
  obtain ⟨cs', h1, h2⟩ := setL_blk 0 (cpV y) B
  have e : cs' = cpA y := by
    apply Array.ext_getElem?
    intro j
    have hc := setL_cell 0 (cpV y) B (by rw [cpV_len hy]; simp [cpA, cpV_len hu]) j
    rw [h2.cell] at hc
    rw [hc]
    by_cases hj : j < 34
    · rw [if_pos ⟨Nat.zero_le _, by rw [cpV_len hy]; omega⟩]
      simp [cpA]
    · rw [if_neg (by rw [cpV_len hy]; omega), B.cell, Array.getElem?_eq_none (by simp [cpA, cpV_len hu]; omega), Array.getElem?_eq_none (by simp [cpA, cpV_len hy]; omega)]
  rw [e] at h2
  exact h2
section
variable {P : Program} {w : World} {o : Oper} {a : Act} {Q : Exit → Act → World → Prop} {K : Act → World → Prop}
theorem wp_new1 (T : TypeId) (ho : o.op = .alloc T) (cs : Array Value) (t : TypeId) (hz : ∀ W : World, (Instr.alloc T true (.tuple #[])).run P W = .ok (.pointer (some ⟨W.heap.size, 0, none⟩)) (W.alloc (.cells cs t))) (hgo : K (a.put o.dst (.pointer (some ⟨w.heap.size, 0, none⟩))) (w.alloc (.cells cs t))) : Oper.wp P o a w K Q := by
  have hz' := hz w
  unfold Oper.wp execOp
  simp only [ho, Sem.run_bind, Sem.run_pure, Result.andThen_ok, hz']
  exact hgo
end
end Go.Wag
namespace Go.Proofs.Ytagageidiebogaa
open Go.RowKit Go.Wag
set_option linter.unusedVariables false
set_option linter.unusedSimpArgs false
set_option maxRecDepth 20000
/-- Blocks in new memory. -/
def CNew (w : World) (ys : List Cp) (e : Ending) (w' : World) : Prop := ∃ A n c, Hid (ys.length = n) ∧ e = .returned (.slice A n c) ∧ Rs cpE (fun x => w.heap.size ≤ x) w' A n c ys ∧ Below w.heap.size w w'
set_option maxHeartbeats 8000000 in
theorem fCells_any {F : Nat → Prop} (b : Int) (xs : List Xp) (A : Option Addr) (n c : Nat) (w : World) (h : Rs extE F w A n c xs) (hm : mapB b xs = true) :
    Calls Try.prog 23 #[.int .i64 b, .slice A n c] w (CNew w (iof xs)) := by
  have HN : Hid (xs.length = n) := h.len
  have hcap := h.cap
  have hbig := h.big
  obtain ⟨hb1, hb64, hrun, _⟩ := (mapB_iff _ _).1 hm
  obtain ⟨bn, rfl⟩ : ∃ k : Nat, b = (k : Int) := ⟨b.toNat, by omega⟩
  have hlen := iof_len hrun
  have hok := mrun_ok hrun
  have hmk := run_mkC bn (by omega)
  have hbn : bn ≤ 64 := by omega
  go_enter Try.func23, Try.ntmps23
  have hR0 := mkC_ro bn w
  have bb := (Below.refl w.heap.size w).alloc (Nat.le_refl _) (.cells (madeCells (cpA c0p) (bn * 34)) 46)
  go_upto_region 2 with (fail)
  clear hmk
  generalize w.alloc (.cells (madeCells (cpA c0p) (bn * 34)) 46) = w3 at *
  obtain ⟨go, hgo⟩ : ∃ k, w.heap.size = k := ⟨_, rfl⟩
  try simp only [hgo] at hR0 ⊢
  have hgw : w.heap.size ≤ go := by omega
  clear hgo
  replace hlen := Lib.hid hlen
  replace hrun := Lib.hid hrun
  replace hok := Lib.hid hok
  replace hm := Lib.hid hm
  have hR1 : Ro cpE (fun _ => True) 46 w3 go (iof (xs.take 0) ++ List.replicate (bn - (iof (xs.take 0)).length) c0p) := by simpa [iof] using hR0
  clear hR0
  go_wp2_with fail
  go_loopg [6] n (fun q i wr => ∃ k : Nat, k + q = n ∧ i = .int .i64 (k : Int) ∧ Ro cpE (fun _ => True) 46 wr go (iof (xs.take k) ++ List.replicate (bn - (iof (xs.take k)).length) c0p) ∧ Below w.heap.size w wr)
  case atStart => exact ⟨0, by omega, rfl, hR1, bb⟩
  case round =>
    clear hR1 bb
    obtain ⟨w1, hw1⟩ : ∃ x, x = wr := ⟨_, rfl⟩
    subst hw1
    obtain ⟨k, hk, rfl, R, bb⟩ := hrel
    by_cases hlt : (k : Int) < (n : Int)
    · obtain ⟨q, rfl⟩ : ∃ q, gk = q + 1 := ⟨gk - 1, by omega⟩
      obtain ⟨gb, o, x, Ai, ci, rfl, _, hg, hz, d0, d1, d2, d3, d4, hS, _⟩ := h.ext_at (show k < n by omega)
      obtain ⟨mi, hmx⟩ : ∃ m, x.l.length = m := ⟨_, rfl⟩
      rw [hmx] at d4 hS
      have hxo := hok.out x (List.mem_iff_getElem?.2 ⟨k, hz⟩)
      have hxa := Xp.all hxo
      have hat := iof_at hrun.out hz
      have htk := take_one hz
      obtain ⟨D, hD⟩ : ∃ D, iof (xs.take k) = D := ⟨_, rfl⟩
      rw [hD] at R hat
      have hDn : iof (xs.take (k + 1)) = D ++ xcells x := by rw [htk, iof_snoc, hD]
      obtain ⟨e, he⟩ : ∃ e, D.length = e := ⟨_, rfl⟩
      obtain ⟨ln, hln⟩ : ∃ m : Nat, x.n = (m : Int) := ⟨x.n.toNat, by omega⟩
      rw [he] at hat
      have heb : e + ln ≤ bn := by
        have := (mrun_in hrun.out x (List.mem_iff_getElem?.2 ⟨k, hz⟩)).2
        omega
      have y0 := (bb.cell hg).trans d0
      have y1 := (bb.cell hg).trans d1
      have y2 := (bb.cell hg).trans d2
      have y3 := (bb.cell hg).trans d3
      have y4 := (bb.cell hg).trans d4
      have hxl := xby_length hxo
      have hkw : (Lit.int .i64 x.k).wf = true := wf_small (by omega) (by omega)
      have hgww : (Lit.int .i64 x.g).wf = true := wf_small (by omega) (by omega)
      rw [hat] at y0 d0
      rw [hln] at y1 hxl
      have hxc : (xcells x).length = ln := by rw [xcells_len, hln]; rfl
      have hby := fun W (hs : Sl W Ai mi ci (x.l.map v8)) => fBytes_any (e : Int) (ln : Int) x.k x.g Ai mi ci x.l W hs
      rw [show (⟨(e : Int), (ln : Int), x.k, x.g, x.l⟩ : Xp) = x by rw [← hat, ← hln], xbytes_ok hxo] at hby
      rw [← ofJ_zero D x bn] at R
      have hS1 := hS.below bb
      have hgol := R.lt
      have hln1 : 1 ≤ ln := by omega
      clear hxa d1 d4
      replace hat := Lib.hid hat
      replace hln := Lib.hid hln
      replace he := Lib.hid he
      replace hD := Lib.hid hD
      replace hDn := Lib.hid hDn
      replace hxc := Lib.hid hxc
      replace hxl := Lib.hid hxl
      go_wp2_with fail
      refine (hby _ hS1).mono ?_
      clear hby y0 y1 y2 y3 y4
      rintro e5 w5 ⟨A5, n5, c5, rfl, N5, b5⟩
      have S5 := Sl.of_own N5
      have h5l := S5.len8
      have hfr5 := N5.fr
      have R1 := R.under b5
      replace bb := bb.trans (b5.mono bb.size)
      have h5n : n5 = 32 * ln := by have := hxl.out; omega
      have h5cap := S5.cap
      have s1 : Int.tdiv (n5 : Int) 32 = (ln : Int) := by rw [Int.tdiv_eq_ediv_of_nonneg (by omega)]; omega
      have s2 : (n5 : Int) / 32 = (ln : Int) := by omega
      have h5b : n5 ≤ 2048 := by omega
      replace h5n := Lib.hid h5n
      have h5big := S5.big
      replace h5l := Lib.hid h5l
      clear N5 b5 hS1 R
      go_wp2_with fail
      go_loopg [8] ln (fun q2 i w6 => ∃ j : Nat, j + q2 = ln ∧ i = .int .i64 (j : Int) ∧ Ro cpE (fun _ => True) 46 w6 go (ofJ D x bn j) ∧ But go w5 w6 ∧ Below w.heap.size w w6)
      case atStart => exact ⟨0, by omega, rfl, R1, But.refl _ _, bb⟩
      case round =>
        clear R1 bb
        obtain ⟨wo, hwo⟩ : ∃ x, x = wr := ⟨_, rfl⟩
        subst hwo
        obtain ⟨j, hj, rfl, R, bt, bb⟩ := hrel
        have hsB := bb.size
        have hgo2 : go < wo.heap.size := R.lt
        by_cases hjl : (j : Int) < (ln : Int)
        · obtain ⟨q2, rfl⟩ : ∃ q, gk = q + 1 := ⟨gk - 1, by omega⟩
          have y0 := (bb.cell hg).trans d0
          have y2 := (bb.cell hg).trans d2
          have y3 := (bb.cell hg).trans d3
          have Sj := S5.but bt (fun _ ad ea => by have := hfr5 ad ea; omega)
          have hzl : (chunk (xby x) j).length = 32 := chunk_len (by have := hxl.out; omega)
          have hset := ofJ_set (D := D) (b := bn) (xcells_at (x := x) (i := j) (by have := hln.out; omega)) (by have := he.out; omega)
          have hol : (ofJ D x bn j).length = bn := ofJ_len (by have := hxc.out; omega) (by have := he.out; omega)
          obtain ⟨p, hp⟩ : ∃ p, e + j = p := ⟨_, rfl⟩
          have hjp : p < bn := by omega
          have hpb : p ≤ 1000000 := by omega
          have hejb : (e : Int) + (j : Int) < (bn : Int) := by omega
          rw [he.out, hp] at hset
          replace hset := Lib.hid hset
          replace hol := Lib.hid hol
          have hjb : j ≤ 64 := by omega
          have hebb : e ≤ 64 := by omega
          replace hp := Lib.hid hp
          have hjN : Hid (32 * (j + 1) ≤ n5) := Lib.hid (by have := h5n.out; omega)
          go_wp2_with fail
          refine wp_region_held_drew (S := fun w' => Below wo.heap.size wo w') (by kernel_rfl) (Below.refl _ _).drew (fun hHeld => ?_)
          try dsimp only at hHeld
          have hd0 : Below wo.heap.size wo wo.drew := (Below.refl wo.heap.size wo).drew
          generalize wo.drew = wd at *
          try simp only [Act.put, List.setIfInBounds_toArray, List.set_cons_zero, List.set_cons_succ]
          refine wpAnyH_take (i := 0) (v := ?_) (by simp only [List.getElem?_toArray, List.getElem?_cons_zero]; rfl) (by kernel_rfl) (by kernel_rfl) (by kernel_rfl) (by intro _ _ _ h; exact h) (Or.inl ⟨by rfl, ?_⟩) hHeld ?_
          rotate_left 1
          · intro wq hSw
            try dsimp only at hSw
            go_simp
            try (with_reducible rfl)
          try simp only [Act.put, List.setIfInBounds_toArray, List.set_cons_zero, List.set_cons_succ]
          refine wpAnyH_take (i := 1) (v := ?_) (by simp only [List.getElem?_toArray, List.getElem?_cons_succ, List.getElem?_cons_zero]; rfl) (by kernel_rfl) (by kernel_rfl) (by kernel_rfl) (by intro _ _ _ h; exact h) (Or.inl ⟨by rfl, ?_⟩) hHeld ?_
          rotate_left 1
          · intro wq hSw
            try dsimp only at hSw
            go_simp
            try (with_reducible rfl)
          try simp only [Act.put, List.setIfInBounds_toArray, List.set_cons_zero, List.set_cons_succ]
          refine wpAnyH_take (i := 2) (v := ?_) (by simp only [List.getElem?_toArray, List.getElem?_cons_succ, List.getElem?_cons_zero]; rfl) (by kernel_rfl) (by kernel_rfl) (by kernel_rfl) (by intro _ _ _ h; exact h) (Or.inl ⟨by rfl, ?_⟩) hHeld ?_
          rotate_left 1
          · intro wq hSw
            try dsimp only at hSw
            go_simp
            try (with_reducible rfl)
          try simp only [Act.put, List.setIfInBounds_toArray, List.set_cons_zero, List.set_cons_succ]
          refine wpAnyH_take (i := 3) (v := ?_) (by simp only [List.getElem?_toArray, List.getElem?_cons_succ, List.getElem?_cons_zero]; rfl) (by kernel_rfl) (by kernel_rfl) (by kernel_rfl) (by intro _ _ _ h; exact h) (Or.inl ⟨by rfl, ?_⟩) hHeld ?_
          rotate_left 1
          · intro wq hSw
            try dsimp only at hSw
            go_simp
            try (with_reducible rfl)
          try simp only [Act.put, List.setIfInBounds_toArray, List.set_cons_zero, List.set_cons_succ]
          refine wpAnyH_take (i := 4) (v := ?_) (by simp only [List.getElem?_toArray, List.getElem?_cons_succ, List.getElem?_cons_zero]; rfl) (by kernel_rfl) (by kernel_rfl) (by kernel_rfl) (by intro _ _ _ h; exact h) (Or.inl ⟨by rfl, ?_⟩) hHeld ?_
          rotate_left 1
          · intro wq hSw
            try dsimp only at hSw
            have q2' := (hSw.cell (by show gb < _; omega)).trans y2
            go_simp
            try (with_reducible rfl)
          try simp only [Act.put, List.setIfInBounds_toArray, List.set_cons_zero, List.set_cons_succ]
          refine wpAnyH_take (i := 5) (v := ?_) (by simp only [List.getElem?_toArray, List.getElem?_cons_succ, List.getElem?_cons_zero]; rfl) (by kernel_rfl) (by kernel_rfl) (by kernel_rfl) (by intro _ _ _ h; exact h) (Or.inl ⟨by rfl, ?_⟩) hHeld ?_
          rotate_left 1
          · intro wq hSw
            try dsimp only at hSw
            go_simp
            try (with_reducible rfl)
          try simp only [Act.put, List.setIfInBounds_toArray, List.set_cons_zero, List.set_cons_succ]
          refine wpAnyH_take (i := 6) (v := ?_) (by simp only [List.getElem?_toArray, List.getElem?_cons_succ, List.getElem?_cons_zero]; rfl) (by kernel_rfl) (by kernel_rfl) (by kernel_rfl) (by intro _ _ _ h; exact h) (Or.inl ⟨by rfl, ?_⟩) hHeld ?_
          rotate_left 1
          · intro wq hSw
            try dsimp only at hSw
            go_simp
            try (with_reducible rfl)
          try simp only [Act.put, List.setIfInBounds_toArray, List.set_cons_zero, List.set_cons_succ]
          refine wpAnyH_take (i := 7) (v := ?_) (by simp only [List.getElem?_toArray, List.getElem?_cons_succ, List.getElem?_cons_zero]; rfl) (by kernel_rfl) (by kernel_rfl) (by kernel_rfl) (by intro _ _ _ h; exact h) (Or.inl ⟨by rfl, ?_⟩) hHeld ?_
          rotate_left 1
          · intro wq hSw
            try dsimp only at hSw
            go_simp
            try (with_reducible rfl)
          try simp only [Act.put, List.setIfInBounds_toArray, List.set_cons_zero, List.set_cons_succ]
          refine wpAnyH_take (i := 8) (v := ?_) (by simp only [List.getElem?_toArray, List.getElem?_cons_succ, List.getElem?_cons_zero]; rfl) (by kernel_rfl) (by kernel_rfl) (by kernel_rfl) (by intro _ _ _ h; exact h) (Or.inl ⟨by rfl, ?_⟩) hHeld ?_
          rotate_left 1
          · intro wq hSw
            try dsimp only at hSw
            go_simp
            try (with_reducible rfl)
          try simp only [Act.put, List.setIfInBounds_toArray, List.set_cons_zero, List.set_cons_succ]
          refine wpAnyH_take (i := 9) (v := ?_) (by simp only [List.getElem?_toArray, List.getElem?_cons_succ, List.getElem?_cons_zero]; rfl) (by kernel_rfl) (by kernel_rfl) (by kernel_rfl) (by intro _ _ _ h; exact h) (Or.inl ⟨by rfl, ?_⟩) hHeld ?_
          rotate_left 1
          · intro wq hSw
            try dsimp only at hSw
            have q3' := (hSw.cell (by show gb < _; omega)).trans y3
            go_simp
            try (with_reducible rfl)
          try simp only [Act.put, List.setIfInBounds_toArray, List.set_cons_zero, List.set_cons_succ]
          refine wpAnyH_take (i := 10) (v := (.agg (cpA ⟨x.k, x.g, z32⟩))) (by simp only [List.getElem?_toArray, List.getElem?_cons_succ, List.getElem?_cons_zero]; rfl) (by kernel_rfl) (by kernel_rfl) (by kernel_rfl) (by intro _ _ _ h; exact h) (Or.inl ⟨by rfl, ?_⟩) hHeld ?_
          · intro wq hSw
            try dsimp only at hSw
            exact exec_build2 46 (.tmp 44) (.tmp 49) 0 1 rfl rfl rfl (buildC _ _ _)
          try simp only [Act.put, List.setIfInBounds_toArray, List.set_cons_zero, List.set_cons_succ]
          refine wpAnyH_ready (rs := [11]) (by kernel_rfl) (by simp) ?_
          refine AllReadyH.cons (by simp only [List.getElem?_toArray, List.getElem?_cons_succ, List.getElem?_cons_zero]; rfl) (fun K hK => ?_) AllReadyH.nil
          refine (if_pos (by rfl)).mpr (wp_new1 46 rfl (cpA c0p) 46 allocC ?_)
          have bN := hHeld.alloc hHeld.size (.cells (cpA c0p) 46)
          have V0 := Blk.new wd (cpA c0p) 46
          refine hK.out _ _ (bN) (fun hHeld => ?_)
          clear hK K
          try dsimp only at hHeld
          clear bN
          generalize wd.alloc (.cells (cpA c0p) 46) = w7 at *
          obtain ⟨kc, hkc⟩ : ∃ k, wd.heap.size = k := ⟨_, rfl⟩
          have hkc2 : wo.heap.size ≤ kc := by have := hd0.size; omega
          simp only [hkc] at V0 ⊢
          replace hkc := Lib.hid hkc
          try simp only [Act.put, List.setIfInBounds_toArray, List.set_cons_zero, List.set_cons_succ]
          refine wpAnyH_ready (rs := [12]) (by kernel_rfl) (by simp) ?_
          refine AllReadyH.cons (by simp only [List.getElem?_toArray, List.getElem?_cons_succ, List.getElem?_cons_zero]; rfl) (fun K hK => ?_) AllReadyH.nil
          refine (if_pos (by rfl)).mpr (wp_storeC V0 46 (.tmp 9) (.tmp 50) rfl (p := 0) (z := ⟨x.k, x.g, z32⟩) rfl rfl rfl (by simp [cpA, cpV, c0p, z32]) szC ?_)
          have V1 := setL_whole (y := ⟨x.k, x.g, z32⟩) V0 rfl rfl
          have bN := setL_below hkc2 (cpV ⟨x.k, x.g, z32⟩) 0 hHeld
          refine hK.out _ _ (bN) (fun hHeld => ?_)
          clear hK K
          try dsimp only at hHeld
          clear bN V0
          try simp only [Act.put, List.setIfInBounds_toArray, List.set_cons_zero, List.set_cons_succ]
          refine wpAnyH_done (by kernel_rfl) ?_ _
          have bV := hHeld
          clear hHeld hd0
          generalize setL w7 kc 0 (cpV ⟨x.k, x.g, z32⟩) = w8 at *
          go_wp2_with fail
          go_loopg [10] 32 (fun q3 i wx => ∃ k' : Nat, k' + q3 = 32 ∧ i = .int .i64 (k' : Int) ∧ Blk wx kc (cpA ⟨x.k, x.g, (chunk (xby x) j).take k' ++ z32.drop k'⟩) 46 ∧ Below wo.heap.size wo wx)
          case atStart => exact ⟨0, by omega, rfl, V1, bV⟩
          case round =>
            clear V1 bV
            obtain ⟨k', hk', rfl, V, bV⟩ := hrel
            by_cases hlt2 : (k' : Int) < 32
            · obtain ⟨q3, rfl⟩ : ∃ q2, gk = q2 + 1 := ⟨gk - 1, by omega⟩
              obtain ⟨pp, hpp⟩ : ∃ pp, 32 * j + k' = pp := ⟨_, rfl⟩
              have hppn : pp < n5 := by have := hjN.out; omega
              have ht : (32 * (j : Int) + (k' : Int)).toNat = pp := by omega
              have htn : 32 * (j : Int) + (k' : Int) < (n5 : Int) := by omega
              obtain ⟨ad, hAd, hb2, hl2, hc2⟩ := (Sj.below bV).byte hppn
              subst hAd
              have hck : (chunk (xby x) j)[k']? = some ((xby x)[pp]'hl2) := by rw [chunk, List.getElem?_take, if_pos (by omega), List.getElem?_drop, hpp, List.getElem?_eq_getElem hl2]
              generalize (xby x)[pp]'hl2 = cc at *
              have hold : ((chunk (xby x) j).take k' ++ z32.drop k')[k']? = some 0 := by rw [List.getElem?_append_right (by rw [List.length_take]; omega), List.length_take, hzl, Nat.min_eq_left (by omega), Nat.sub_self, List.getElem?_drop, Nat.add_zero]; exact z32_at (by omega)
              have vq : wr.cell? ⟨kc, 2 + k', none⟩ = some (.int .u8 (((0 : UInt8).toNat : Nat) : Int)) := (V.cell _).trans (cp_at2 hold)
              have vr : wr.frozen? ⟨kc, 2 + k', none⟩ = false := V.frozen _
              have V2 := V.set (2 + k') (v8 cc)
              rw [cp_byte hck (by omega)] at V2
              have bV2 := bV.setCell (p := ⟨kc, 2 + k', none⟩) hkc2 (v8 cc)
              rw [show v8 cc = .int .u8 (cc.toNat : Int) from rfl] at V2 bV2
              have hlc := V.lt
              clear hold hck V bV
              replace hpp := Lib.hid hpp
              go_wp2_with fail
              go_roundg q3
              case measure => omega
              case rel => exact ⟨k' + 1, by omega, by first | rfl | (simp; done) | (simp; exact wrap64_small (by omega) (by omega)), V2, bV2⟩
            · obtain rfl : k' = 32 := by omega
              rw [List.take_of_length_le (Nat.le_of_eq hzl), show z32.drop 32 = [] from rfl, List.append_nil] at V
              have C := V.cs ⟨hzl, hkw, hgww⟩
              have Rv := R.under bV
              have bt2 := bt.below2 bV
              have bb2 := bb.trans (bV.mono hsB)
              have z0 := (bV.cell (by show gb < _; omega)).trans y0
              have hlg : gb < wr.heap.size := by have := bV.size; omega
              have hlc := V.lt
              have hkg : kc ≠ go := by omega
              go_wp2_with fail
              refine wp_region_held_drew (S := fun w' => But go wr w') (by kernel_rfl) (But.refl _ _).drew (fun hHeld => ?_)
              try dsimp only at hHeld
              have R6 := Rv.drew
              have bb6 := bb2.trans ((Below.refl wr.heap.size wr).drew.mono bb2.size)
              generalize wr.drew = wd at *
              try simp only [Act.put, List.setIfInBounds_toArray, List.set_cons_zero, List.set_cons_succ]
              refine wpAnyH_take (i := 0) (v := ?_) (by simp only [List.getElem?_toArray, List.getElem?_cons_zero]; rfl) (by kernel_rfl) (by kernel_rfl) (by kernel_rfl) (by intro _ _ _ h; exact h) (Or.inl ⟨by rfl, ?_⟩) hHeld ?_
              rotate_left 1
              · intro wq hSw
                try dsimp only at hSw
                go_simp
                try (with_reducible rfl)
              try simp only [Act.put, List.setIfInBounds_toArray, List.set_cons_zero, List.set_cons_succ]
              refine wpAnyH_take (i := 1) (v := ?_) (by simp only [List.getElem?_toArray, List.getElem?_cons_succ, List.getElem?_cons_zero]; rfl) (by kernel_rfl) (by kernel_rfl) (by kernel_rfl) (by intro _ _ _ h; exact h) (Or.inl ⟨by rfl, ?_⟩) hHeld ?_
              rotate_left 1
              · intro wq hSw
                try dsimp only at hSw
                go_simp
                try (with_reducible rfl)
              try simp only [Act.put, List.setIfInBounds_toArray, List.set_cons_zero, List.set_cons_succ]
              refine wpAnyH_take (i := 2) (v := ?_) (by simp only [List.getElem?_toArray, List.getElem?_cons_succ, List.getElem?_cons_zero]; rfl) (by kernel_rfl) (by kernel_rfl) (by kernel_rfl) (by intro _ _ _ h; exact h) (Or.inl ⟨by rfl, ?_⟩) hHeld ?_
              rotate_left 1
              · intro wq hSw
                try dsimp only at hSw
                go_simp
                try (with_reducible rfl)
              try simp only [Act.put, List.setIfInBounds_toArray, List.set_cons_zero, List.set_cons_succ]
              refine wpAnyH_take (i := 3) (v := ?_) (by simp only [List.getElem?_toArray, List.getElem?_cons_succ, List.getElem?_cons_zero]; rfl) (by kernel_rfl) (by kernel_rfl) (by kernel_rfl) (by intro _ _ _ h; exact h) (Or.inl ⟨by rfl, ?_⟩) hHeld ?_
              rotate_left 1
              · intro wq hSw
                try dsimp only at hSw
                go_simp
                try (with_reducible rfl)
              try simp only [Act.put, List.setIfInBounds_toArray, List.set_cons_zero, List.set_cons_succ]
              refine wpAnyH_take (i := 4) (v := ?_) (by simp only [List.getElem?_toArray, List.getElem?_cons_succ, List.getElem?_cons_zero]; rfl) (by kernel_rfl) (by kernel_rfl) (by kernel_rfl) (by intro _ _ _ h; exact h) (Or.inl ⟨by rfl, ?_⟩) hHeld ?_
              rotate_left 1
              · intro wq hSw
                try dsimp only at hSw
                go_simp
                try (with_reducible rfl)
              try simp only [Act.put, List.setIfInBounds_toArray, List.set_cons_zero, List.set_cons_succ]
              refine wpAnyH_take (i := 5) (v := ?_) (by simp only [List.getElem?_toArray, List.getElem?_cons_succ, List.getElem?_cons_zero]; rfl) (by kernel_rfl) (by kernel_rfl) (by kernel_rfl) (by intro _ _ _ h; exact h) (Or.inl ⟨by rfl, ?_⟩) hHeld ?_
              rotate_left 1
              · intro wq hSw
                try dsimp only at hSw
                have x := (hSw.cell (p := ⟨gb, _, none⟩) hlg (by show gb ≠ go; omega)).trans z0
                go_simp
                try (with_reducible rfl)
              try simp only [Act.put, List.setIfInBounds_toArray, List.set_cons_zero, List.set_cons_succ]
              refine wpAnyH_take (i := 6) (v := ?_) (by simp only [List.getElem?_toArray, List.getElem?_cons_succ, List.getElem?_cons_zero]; rfl) (by kernel_rfl) (by kernel_rfl) (by kernel_rfl) (by intro _ _ _ h; exact h) (Or.inl ⟨by rfl, ?_⟩) hHeld ?_
              rotate_left 1
              · intro wq hSw
                try dsimp only at hSw
                go_simp
                try (with_reducible rfl)
              try simp only [Act.put, List.setIfInBounds_toArray, List.set_cons_zero, List.set_cons_succ]
              refine wpAnyH_take (i := 7) (v := (.int .i64 (p : Int))) (by simp only [List.getElem?_toArray, List.getElem?_cons_succ, List.getElem?_cons_zero]; rfl) (by kernel_rfl) (by kernel_rfl) (by kernel_rfl) (by intro _ _ _ h; exact h) (Or.inl ⟨by rfl, ?_⟩) hHeld ?_
              · intro wq hSw
                try dsimp only at hSw
                go_simp
                rw [IntWalk.i64_left]
                unfold wrap64
                have := hp.out
                omega
              try simp only [Act.put, List.setIfInBounds_toArray, List.set_cons_zero, List.set_cons_succ]
              refine wpAnyH_take (i := 8) (v := (.agg (cpA ⟨x.k, x.g, chunk (xby x) j⟩))) (by simp only [List.getElem?_toArray, List.getElem?_cons_succ, List.getElem?_cons_zero]; rfl) (by kernel_rfl) (by kernel_rfl) (by kernel_rfl) (by intro _ _ _ h; exact h) (Or.inl ⟨by rfl, ?_⟩) hHeld ?_
              · intro wq hSw
                try dsimp only at hSw
                exact exec_loadC 46 (.tmp 9) rfl rfl (⟨C.1, fun jj v hjj => (hSw.cell (p := ⟨kc, _, none⟩) hlc (by show kc ≠ go; exact hkg)).trans (C.2 jj v hjj)⟩ : Cs wq kc 0 ⟨x.k, x.g, chunk (xby x) j⟩) Try.underlying46 szC
              try simp only [Act.put, List.setIfInBounds_toArray, List.set_cons_zero, List.set_cons_succ]
              refine wpAnyH_take (i := 9) (v := ?_) (by simp only [List.getElem?_toArray, List.getElem?_cons_succ, List.getElem?_cons_zero]; rfl) (by kernel_rfl) (by kernel_rfl) (by kernel_rfl) (by intro _ _ _ h; exact h) (Or.inl ⟨by rfl, ?_⟩) hHeld ?_
              rotate_left 1
              · intro wq hSw
                try dsimp only at hSw
                go_simp
                try (with_reducible rfl)
              try simp only [Act.put, List.setIfInBounds_toArray, List.set_cons_zero, List.set_cons_succ]
              refine wpAnyH_ready (rs := [10]) (by kernel_rfl) (by simp) ?_
              refine AllReadyH.cons (by simp only [List.getElem?_toArray, List.getElem?_cons_succ, List.getElem?_cons_zero]; rfl) (fun K hK => ?_) AllReadyH.nil
              obtain ⟨cs, hcs, hBk⟩ := R6.blk
              have hcs2 : p * 34 + 34 ≤ cs.size := by rw [hol.out] at hcs; have e34 : cpE.k = 34 := rfl; rw [e34] at hcs; omega
              refine (if_pos (by rfl)).mpr (wp_storeC hBk 46 (.tmp 74) (.tmp 73) rfl (z := ⟨x.k, x.g, chunk (xby x) j⟩) hzl rfl rfl hcs2 szC ?_)
              have R7 := R6.set (i := p) (by rw [hol.out]; exact hjp) (y := ⟨x.k, x.g, chunk (xby x) j⟩) (vs := cpV ⟨x.k, x.g, chunk (xby x) j⟩) ⟨rfl, ⟨hzl, hkw, hgww⟩⟩
              have bN := hHeld.then (setL_but wd go (p * 34) (cpV ⟨x.k, x.g, chunk (xby x) j⟩))
              have bb7 := setL_below hgw (cpV ⟨x.k, x.g, chunk (xby x) j⟩) (p * 34) bb6
              clear hBk hcs hcs2
              refine hK.out _ _ (bN) (fun hHeld => ?_)
              clear hK K
              try dsimp only at hHeld
              clear bN
              try simp only [Act.put, List.setIfInBounds_toArray, List.set_cons_zero, List.set_cons_succ]
              refine wpAnyH_done (by kernel_rfl) ?_ _
              have bt7 := bt2.then hHeld
              have Rj : Ro cpE (fun _ => True) 46 (setL wd go (p * 34) (cpV ⟨x.k, x.g, chunk (xby x) j⟩)) go (ofJ D x bn (j + 1)) := by rw [← hset.out]; exact R7
              clear R7 R6 Rv hHeld bb6 V C
              generalize setL wd go (p * 34) (cpV ⟨x.k, x.g, chunk (xby x) j⟩) = w9 at *
              go_wp2
              go_roundg q2
              case measure => omega
              case rel => exact ⟨j + 1, by omega, by first | rfl | (simp; done) | (simp; exact wrap64_small (by omega) (by omega)), Rj, bt7, bb7⟩
        · obtain rfl : j = ln := by omega
          have Rn : Ro cpE (fun _ => True) 46 wo go (iof (xs.take (k + 1)) ++ List.replicate (bn - (iof (xs.take (k + 1))).length) c0p) := by rw [hDn.out, ← ofJ_end, hxc.out]; exact R
          clear R
          go_wp2
          go_roundg q
          case measure => omega
          case rel => exact ⟨k + 1, by omega, by first | rfl | (simp; done) | (simp; exact wrap64_small (by omega) (by omega)), Rn, bb⟩
    · obtain rfl : k = n := by omega
      rw [List.take_of_length_le (Nat.le_of_eq HN.out)] at R
      have hbl : (iof xs).length = bn := by have := hlen.out; omega
      rw [hbl, Nat.sub_self, List.replicate_zero, List.append_nil] at R
      go_wp2
      go_ret
      exact ⟨some ⟨go, 0, none⟩, bn, bn, hbl, rfl, R.toRsC hbl (Nat.le_refl _) (by omega) hgw, bb⟩
end Go.Proofs.Ytagageidiebogaa
