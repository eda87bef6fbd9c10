/-
  The walk of LeMany.
-/
import Derived.Test.YtidiklgdckhpiaaLeBackWalk
namespace Go.Proofs.Ytidiklgdckhpiaa
open Go.RowKit Go.Wag
set_option linter.unusedVariables false

/-- So many letters q; numbers of eight bytes one behind the other. -/
def qs (k : Nat) : ByteArray := ⟨(List.replicate k 113).toArray⟩
def flat8 (ns : List UInt64) : List UInt8 := (ns.map fun x => leb 8 x.toNat).flatten

theorem qs_succ (k : Nat) : qs k ++ ⟨#[113]⟩ = qs (k + 1) := by
  apply ByteArray.ext
  apply Array.ext'
  simp [qs, List.replicate_succ']
theorem qs_size (k : Nat) : (qs k).size = k := by
  show (List.replicate k (113 : UInt8)).toArray.size = k
  simp
theorem pack_qs : ∀ ns : List UInt64, packF (List.replicate ns.length 113) ns = some (flat8 ns)
  | [] => rfl
  | x :: r => by
    have h113 : ltr ((113 : UInt8).toNat : Int) = 8 := by decide
    have hf : fitsB x.toNat 8 = true := fits8 (u64_lt x)
    simp only [List.length_cons, List.replicate_succ, packF, h113, hf, pack_qs r]
    simp [flat8]
theorem flat8_length : ∀ ns : List UInt64, (flat8 ns).length = 8 * ns.length
  | [] => rfl
  | x :: r => by
    have := flat8_length r
    simp only [flat8, List.map_cons, List.flatten_cons, List.length_append, leb_length, List.length_cons] at *
    omega
theorem flat8_cons (x : UInt64) (r : List UInt64) : flat8 (x :: r) = leb 8 x.toNat ++ flat8 r := by simp [flat8]
theorem take_none8 : takeF [] 8 = none := rfl

set_option maxRecDepth 100000 in
set_option maxHeartbeats 1000000 in
theorem LeMany_walk (a0 : Option Addr) (len0 cap0 : Nat) (z0 : List Int) (w : World) (w0 : IsRow .u64 w a0 len0 cap0 z0) :
    Calls Try.prog 9 #[.slice a0 len0 cap0] w (AwakePost w) := by
  obtain ⟨ns, s0⟩ := w0.nums
  clear w0
  by_cases g1 : (40 : Int) < (len0 : Int)
  · go_enter Try.func9, Try.ntmps9
    go_wp2_with fail
    refine (awake_any _).mono ?_
    rintro e w1 ⟨rfl, b1⟩
    go_wp2
    go_ret
    exact ⟨rfl, b1⟩
  have gd : decide ((40 : Int) < (len0 : Int)) = false := by simpa using g1
  have HN : Hid (ns.length = len0) := s0.len64
  go_enter Try.func9, Try.ntmps9
  go_wp2_with fail
  refine (awake_any _).mono ?_
  rintro e w1 ⟨rfl, b1⟩
  replace s0 := s0.below b1
  go_wp2
  go_loop [4, 5] (fun x i => ∃ k : Nat, k ≤ len0 ∧ i = .int .i64 k ∧ x = .string (qs k)) (fun _ i => len0 - (intOf i).toNat)
  case atStart => exact ⟨0, Nat.zero_le _, rfl, rfl⟩
  case round =>
    obtain ⟨k, hk, rfl, rfl⟩ := hrel
    by_cases hlt : k < len0
    · have hq := qs_succ k
      have hqs := qs_size k
      go_wp2
      go_round
      case rel => exact ⟨k + 1, by omega, by go_num, by first | rfl | (rw [hq])⟩
      case measure => simp [intOf]; omega
    · obtain rfl : k = len0 := by omega
      have HP : Hid (packF (qs k).data.toList ns = some (flat8 ns)) := by
        show packF (List.replicate k 113) ns = _
        rw [← HN.out]; exact pack_qs ns
      go_wp2_with fail
      refine (BytesErr.ok (Pack_any _ _ _ _ ns _ s0 (by rw [qs_size]; omega)) HP.out).mono ?_
      rintro e w2 ⟨A2, n2, c2, rfl, s2, f2, b2⟩
      have hn2 : 8 * k = n2 := by
        have h5 := s2.len8
        rw [flat8_length, HN.out] at h5
        exact h5
      subst hn2
      replace s0 := s0.below b2
      replace b1 := b1.trans (b2.mono b1.size)
      clear b2 f2
      go_wp2
      go_loopw [6, 8] (fun x i wr => ∃ j : Nat, j ≤ k ∧ i = .int .i64 j ∧ Below w.heap.size w wr ∧ Sl wr a0 k cap0 (ns.map v64) ∧ ∃ A c, x = .slice A (8 * (k - j)) c ∧ Sl wr A (8 * (k - j)) c ((flat8 (ns.drop j)).map v8)) (fun _ i _ => k - (intOf i).toNat)
      case atStart => exact ⟨0, Nat.zero_le _, rfl, b1, s0, A2, c2, rfl, s2⟩
      case round =>
        obtain ⟨j, hj, rfl, b3, s3, A3, c3, rfl, s4⟩ := hrel
        clear s0 s2 b1
        by_cases hjk : j < k
        · obtain ⟨ad, rfl, hba, hln, hcell⟩ := s3.num hjk
          have HD : Hid (ns.drop j = ns[j] :: ns.drop (j + 1)) := List.drop_eq_getElem_cons hln
          have HT : Hid (takeF (flat8 (ns.drop j)) 8 = some (ns[j].toNat, flat8 (ns.drop (j + 1)))) := by
            show _ = _
            rw [HD.out, flat8_cons]; exact takeF8 (u64_lt _)
          go_wp2_with fail
          refine (NumErr.ok (Take_any _ _ _ _ _ _ s4 (by omega)) HT.out).mono ?_
          rintro e w5 ⟨A5, n5, c5, rfl, s5, f5, b5⟩
          have hn5 : 8 * (k - (j + 1)) = n5 := by
            have h5 := s5.len8
            rw [flat8_length, List.length_drop, HN.out] at h5
            exact h5
          subst hn5
          replace b3 := b3.trans (b5.mono b3.size)
          have hcell5 := (b5.cell (p := ad.add j) (by rw [add_block]; exact hba)).trans hcell
          replace s3 := s3.below b5
          clear b5 f5 s4 hcell
          have hne : (((8 * (k - (j + 1)) : Nat) : Int) != ((8 * (k - j) : Nat) : Int) - 8) = false := by simp; omega
          have hjki : (j : Int) < (k : Int) := by omega
          go_wp2
          exact ⟨⟨j + 1, by omega, by go_num, b3, s3, A5, c5, rfl, s5⟩, by simp [intOf]; omega⟩
        · have h0 : 8 * (k - j) = 0 := by omega
          have HD : Hid (flat8 (ns.drop j) = []) := by
            show _ = _
            rw [List.drop_eq_nil_of_le (by rw [HN.out]; omega)]; rfl
          rw [h0, HD.out] at s4
          rw [h0]
          clear h0
          go_wp2_with fail
          refine (NumErr.no (Take_any _ _ _ [] _ _ s4 (by omega)) take_none8).mono ?_
          rintro e w5 ⟨A5, n5, c5, rfl, s5, f5, b5⟩
          go_wp2
          go_ret
          exact ⟨rfl, b3.trans (b5.mono b3.size)⟩
end Go.Proofs.Ytidiklgdckhpiaa
