/-
  The walk of LeApart.
-/
import Derived.Test.YtidiklgdckhpiaaLeManyWalk
namespace Go.Proofs.Ytidiklgdckhpiaa
open Go.RowKit Go.Wag
set_option linter.unusedVariables false

theorem lev_split (l : List UInt8) (j : Nat) (hj : j < l.length) : lev l = lev (l.take j) + 256 ^ j * (l[j].toNat + 256 * lev (l.drop (j + 1))) := by
  have h : ∀ (a b : List UInt8), lev (a ++ b) = lev a + 256 ^ a.length * lev b := by
    intro a
    induction a with
    | nil => intro b; simp [lev]
    | cons c r ih =>
      intro b
      simp only [List.cons_append, lev, ih b, List.length_cons, Nat.pow_succ]
      rw [Nat.mul_add, Nat.add_assoc]
      congr 2
      rw [← Nat.mul_assoc, Nat.mul_comm 256]
  have e := h (l.take j) (l.drop j)
  rw [List.take_append_drop, List.length_take, Nat.min_eq_left (by omega)] at e
  rw [e, List.drop_eq_getElem_cons hj, lev]
theorem lev_gt {a b : List UInt8} {j : Nat} (ha : j < a.length) (hb : j < b.length) (he : a.drop (j + 1) = b.drop (j + 1)) (hlt : b[j].toNat < a[j].toNat) : lev b < lev a := by
  rw [lev_split a j ha, lev_split b j hb, he]
  have h1 := lev_lt (b.take j)
  rw [List.length_take, Nat.min_eq_left (by omega)] at h1
  generalize 256 ^ j = P at *
  have h2 : P * (b[j].toNat + 256 * lev (b.drop (j + 1)) + 1) ≤ P * (a[j].toNat + 256 * lev (b.drop (j + 1))) := Nat.mul_le_mul_left _ (by omega)
  rw [Nat.mul_add, Nat.mul_one] at h2
  omega
theorem u64_of (a : Int) (h0 : 0 ≤ a) (h1 : a < 18446744073709551616) : ∃ x : UInt64, a = (x.toNat : Int) := by
  refine ⟨UInt64.ofNat a.toNat, ?_⟩
  have : (UInt64.ofNat a.toNat).toNat = a.toNat % 18446744073709551616 := by rw [UInt64.toNat_ofNat']
  omega
theorem pack_q (x : UInt64) : packF [113] [x] = some (leb 8 x.toNat) := by
  have := pack_qs [x]
  simpa [flat8] using this

set_option maxRecDepth 100000 in
set_option maxHeartbeats 1000000 in
theorem LeApart_walk (a0 : Int) (a1 : Int) (w : World) (w0 : (Lit.int .u64 a0).wf = true) (w1 : (Lit.int .u64 a1).wf = true) :
    Calls Try.prog 6 #[.int .u64 a0, .int .u64 a1] w (AwakePost w) := by
  obtain ⟨x, rfl⟩ := u64_of a0 (wf_u64 w0).1 (wf_u64 w0).2
  obtain ⟨y, rfl⟩ := u64_of a1 (wf_u64 w1).1 (wf_u64 w1).2
  clear w0 w1
  go_enter Try.func6, Try.ntmps6
  go_wp2_with fail
  refine (awake_any _).mono ?_
  rintro e w1 ⟨rfl, b1⟩
  go_wp2_with fail
  refine (BytesErr.ok (Pack_any _ _ 1 1 [x] _ (by exact sl64 w1 [x] (by simp)) (by decide)) (pack_q x)).mono ?_
  rintro e w2 ⟨A2, n2, c2, rfl, s2, f2, b2⟩
  replace b2 := ((Below.refl _ w1).alloc (Nat.le_refl _) _).trans (b2.mono (by simp))
  replace b1 := b1.trans (b2.mono b1.size)
  clear b2 f2
  obtain rfl : 8 = n2 := by have := s2.len8; rwa [leb_length] at this
  go_wp2_with fail
  refine (BytesErr.ok (Pack_any _ _ 1 1 [y] _ (by exact sl64 w2 [y] (by simp)) (by decide)) (pack_q y)).mono ?_
  rintro e w3 ⟨A3, n3, c3, rfl, s3, f3, b3⟩
  replace b3 := ((Below.refl _ w2).alloc (Nat.le_refl _) _).trans (b3.mono (by simp))
  replace b1 := b1.trans (b3.mono b1.size)
  replace s2 := s2.below b3
  clear b3 f3
  obtain rfl : 8 = n3 := by have := s3.len8; rwa [leb_length] at this
  have HX : Hid (lev (leb 8 x.toNat) = x.toNat) := lev8 (u64_lt x)
  have HY : Hid (lev (leb 8 y.toNat) = y.toNat) := lev8 (u64_lt y)
  have HLX : Hid ((leb 8 x.toNat).length = 8) := leb_length _ _
  have HLY : Hid ((leb 8 y.toNat).length = 8) := leb_length _ _
  obtain ⟨lx, hlx⟩ : ∃ lx, lx = leb 8 x.toNat := ⟨_, rfl⟩
  obtain ⟨ly, hly⟩ : ∃ ly, ly = leb 8 y.toNat := ⟨_, rfl⟩
  rw [← hlx] at s2 HX HLX
  rw [← hly] at s3 HY HLY
  clear hlx hly
  go_wp2
  go_loopw [10] (fun i wr => ∃ k : Nat, k ≤ 8 ∧ i = .int .i64 ((k : Int) - 1) ∧ Hid (∃ q, wr = w3.drewN q) ∧ Hid (lx.drop k = ly.drop k)) (fun i _ => (intOf i + 1).toNat)
  case atStart => exact ⟨8, Nat.le_refl _, rfl, ⟨0, rfl⟩, by show _ = _; rw [List.drop_eq_nil_of_le (by rw [HLX.out]; exact Nat.le_refl _), List.drop_eq_nil_of_le (by rw [HLY.out]; exact Nat.le_refl _)]⟩
  case round =>
    obtain ⟨k, hk, rfl, HW, HE⟩ := hrel
    have sx : Sl wr A2 8 c2 (lx.map v8) := by obtain ⟨q, e⟩ := HW.out; rw [e]; exact s2.drewN q
    have sy : Sl wr A3 8 c3 (ly.map v8) := by obtain ⟨q, e⟩ := HW.out; rw [e]; exact s3.drewN q
    have bw : ∀ nq, Below w.heap.size w (wr.drewN nq) := by intro nq; obtain ⟨q, e⟩ := HW.out; rw [e]; exact drewN_below (drewN_below b1 q) nq
    have BW := Lib.hid bw
    clear bw
    by_cases hk0 : k = 0
    · subst hk0
      have HXY : Hid (x = y) := by
        show x = y
        have := HE.out
        rw [List.drop_zero, List.drop_zero] at this
        apply UInt64.toNat_inj.1
        rw [← HX.out, ← HY.out, this]
      obtain rfl := HXY.out
      go_wp2
      go_ret
      exact ⟨rfl, BW.out 0⟩
    · obtain ⟨j, rfl⟩ : ∃ j, k = j + 1 := ⟨k - 1, by omega⟩
      obtain ⟨ad, rfl, hba, hl1, hc1⟩ := sx.byte (show j < 8 by omega)
      obtain ⟨ad2, rfl, hba2, hl2, hc2⟩ := sy.byte (show j < 8 by omega)
      have hj8 : (j : Int) < 8 := by omega
      have hji : (((j + 1 : Nat) : Int) - 1) = (j : Int) := by omega
      rw [hji]
      clear hji
      by_cases hxy : lx[j].toNat = ly[j].toNat
      · have hbn : (((lx[j].toNat : Nat) : Int) != ((ly[j].toNat : Nat) : Int)) = false := by simp [hxy]
        have HT : Hid (lx.drop j = ly.drop j) := by
          show _ = _
          rw [List.drop_eq_getElem_cons hl1, List.drop_eq_getElem_cons hl2, HE.out, UInt8.toNat_inj.1 hxy]
        clear hxy
        go_wp2_with fail
        go_quiet (fail)
        go_wp2
        exact ⟨⟨j, by omega, rfl, by obtain ⟨q, e⟩ := HW.out; exact ⟨_, by rw [e, World.drewN_drewN]⟩, HT⟩, by simp [intOf]⟩
      · have hbn : (((lx[j].toNat : Nat) : Int) != ((ly[j].toNat : Nat) : Int)) = true := by simp; omega
        rcases (show ly[j].toNat < lx[j].toNat ∨ lx[j].toNat < ly[j].toNat by omega) with hgt | hgt
        · have hv := lev_gt hl1 hl2 HE.out hgt
          rw [HX.out, HY.out] at hv
          have d1 : decide (ly[j].toNat < lx[j].toNat) = true := by simpa using hgt
          have d2 : decide (y.toNat < x.toNat) = true := by simpa using hv
          clear hxy
          go_wp2_with fail
          go_quiet (fail)
          go_wp2_with fail
          go_quiet (fail)
          go_wp2
          go_ret
          exact ⟨rfl, drewN_below (BW.out _) _⟩
        · have hv := lev_gt hl2 hl1 HE.out.symm hgt
          rw [HX.out, HY.out] at hv
          have d1 : decide (ly[j].toNat < lx[j].toNat) = false := by simp; omega
          have d2 : decide (y.toNat < x.toNat) = false := by simp; omega
          clear hxy
          go_wp2_with fail
          go_quiet (fail)
          go_wp2_with fail
          go_quiet (fail)
          go_wp2
          go_ret
          exact ⟨rfl, drewN_below (BW.out _) _⟩
end Go.Proofs.Ytidiklgdckhpiaa
