/-
  Plain facts on numbers, the lowest byte first: no program is named here.
-/
import Derived.Test.YtagageidiebogaaWords
namespace Go.Wag

/-- n in k bytes; what bytes are. -/
def leb : Nat → Nat → List UInt8
  | 0, _ => []
  | k + 1, n => UInt8.ofNat n :: leb k (n / 256)
def lev : List UInt8 → Nat
  | [] => 0
  | c :: r => c.toNat + 256 * lev r
/-- A size; a letter's size; whether n fits. -/
def isSz (s : Int) : Bool := s == 1 || s == 2 || s == 4 || s == 8
def ltr (c : Int) : Nat := if c = 98 then 1 else if c = 104 then 2 else if c = 119 then 4 else if c = 113 then 8 else 0
def fitsB (n k : Nat) : Bool := decide (n < 256 ^ k)

theorem leb_length : ∀ (k n : Nat), (leb k n).length = k
  | 0, _ => rfl
  | k + 1, n => by simp [leb, leb_length k]

theorem leb_snoc : ∀ (k n : Nat), leb (k + 1) n = leb k n ++ [UInt8.ofNat (n / 256 ^ k)]
  | 0, n => by simp [leb]
  | k + 1, n => by
    show UInt8.ofNat n :: leb (k + 1) (n / 256) = (UInt8.ofNat n :: leb k (n / 256)) ++ _
    rw [leb_snoc k, Nat.div_div_eq_div_mul, Nat.pow_succ, Nat.mul_comm 256]
    rfl

theorem lev_lt : ∀ (l : List UInt8), lev l < 256 ^ l.length
  | [] => by simp [lev]
  | c :: r => by
    have h := lev_lt r
    have hc := c.toNat_lt
    simp only [lev, List.length_cons, Nat.pow_succ]
    omega

theorem lev_snoc : ∀ (l : List UInt8) (c : UInt8), lev (l ++ [c]) = lev l + 256 ^ l.length * c.toNat
  | [], c => by simp [lev]
  | d :: r, c => by
    simp only [List.cons_append, lev, lev_snoc r c, List.length_cons, Nat.pow_succ]
    rw [Nat.mul_add, Nat.add_assoc]
    congr 2
    rw [← Nat.mul_assoc, Nat.mul_comm 256]

theorem lev_leb : ∀ (k n : Nat), n < 256 ^ k → lev (leb k n) = n
  | 0, n, h => by simp at h; simp [leb, lev, h]
  | k + 1, n, h => by
    have hd : n / 256 < 256 ^ k := by
      rw [Nat.pow_succ] at h
      exact Nat.div_lt_of_lt_mul (by rw [Nat.mul_comm]; exact h)
    simp only [leb, lev, lev_leb k _ hd]
    have : (UInt8.ofNat n).toNat = n % 256 := by simp
    omega

theorem leb_lev : ∀ (l : List UInt8), leb l.length (lev l) = l
  | [] => rfl
  | c :: r => by
    have hc := c.toNat_lt
    have hd : (c.toNat + 256 * lev r) / 256 = lev r := by omega
    have hm : UInt8.ofNat (c.toNat + 256 * lev r) = c := by
      apply UInt8.toNat_inj.1
      simp
    simp only [List.length_cons, leb, lev, hd, hm, leb_lev r]

theorem isSz_cases {s : Int} (h : isSz s = true) : s = 1 ∨ s = 2 ∨ s = 4 ∨ s = 8 := by simpa [isSz, or_assoc] using h
theorem isSz_no {s : Int} (h : isSz s = false) : s ≠ 1 ∧ s ≠ 2 ∧ s ≠ 4 ∧ s ≠ 8 := by simpa [isSz, and_assoc] using h
theorem ltr_isSz {c : Int} (h : ltr c ≠ 0) : isSz (ltr c : Int) = true := by
  unfold ltr at *
  repeat' split at h
  all_goals simp_all [isSz]
theorem ltr_le (c : Int) : ltr c ≤ 8 := by unfold ltr; repeat' split
                                           all_goals omega
theorem ltr_high {c : Int} (h : 128 ≤ c) : ltr c = 0 := by
  unfold ltr
  rw [if_neg (by omega), if_neg (by omega), if_neg (by omega), if_neg (by omega)]

/-- What is put behind; what is taken. -/
def putF (l : List UInt8) (n : Nat) (s : Int) : Option (List UInt8) := if isSz s && fitsB n s.toNat then some (l ++ leb s.toNat n) else none
def takeF (l : List UInt8) (s : Int) : Option (Nat × List UInt8) := if isSz s && decide (s.toNat ≤ l.length) then some (lev (l.take s.toNat), l.drop s.toNat) else none

/-- A form's bytes; numbers by it; and back. -/
def fsum : List UInt8 → Option Nat
  | [] => some 0
  | c :: r => if ltr c.toNat = 0 then none else (fsum r).map (ltr c.toNat + ·)
def packF : List UInt8 → List UInt64 → Option (List UInt8)
  | [], [] => some []
  | c :: r, n :: ns => if ltr c.toNat = 0 ∨ fitsB n.toNat (ltr c.toNat) = false then none else (packF r ns).map (leb (ltr c.toNat) n.toNat ++ ·)
  | _, _ => none
def unpackF : List UInt8 → List UInt8 → Option (List UInt64)
  | [], b => if b = [] then some [] else none
  | c :: r, b => if ltr c.toNat = 0 ∨ b.length < ltr c.toNat then none else (unpackF r (b.drop (ltr c.toNat))).map (UInt64.ofNat (lev (b.take (ltr c.toNat))) :: ·)

theorem pow_256 (k : Nat) : (2 : Int) ^ (8 * k) = ((256 ^ k : Nat) : Int) := by
  rw [Int.pow_mul]
  simp

theorem or_step (a c k : Nat) (hk : k < 8) (ha : a < 256 ^ k) (hc : c < 256) :
    bits .or .u64 (a : Int) (IntKind.u64.wrap (IntKind.u64.wrap (c : Int) * 2 ^ (8 * k))) = ((a + 256 ^ k * c : Nat) : Int) := by
  have h7 : 256 ^ k ≤ 256 ^ 7 := Nat.pow_le_pow_right (by omega) (by omega)
  have h8 : (256 : Nat) ^ 7 = 72057594037927936 := by decide
  have hm : c * 256 ^ k ≤ 255 * 72057594037927936 := by
    rw [← h8]
    exact Nat.mul_le_mul (by omega) h7
  have e1 : IntKind.u64.wrap (c : Int) = (c : Int) := by rw [IntKind.wrap_u64]; omega
  rw [e1, pow_256, ← Int.natCast_mul, IntKind.wrap_u64]
  have e2 : ((c * 256 ^ k : Nat) : Int) % 18446744073709551616 = ((c * 256 ^ k : Nat) : Int) := by omega
  rw [e2, u64_or_nat _ _ (by omega) (by omega)]
  congr 1
  have hp : (256 : Nat) ^ k = 2 ^ (8 * k) := by rw [Nat.pow_mul]
  rw [hp] at ha ⊢
  rw [Nat.or_comm, Nat.mul_comm c, ← Nat.two_pow_add_eq_or_of_lt ha, Nat.add_comm]

theorem fits1 (n : Int) (k q : Nat) (h0 : 0 ≤ n) (hq : 256 ^ k = q) : (n / (q : Int) == 0) = fitsB n.toNat k := by
  obtain ⟨m, rfl⟩ := Int.eq_ofNat_of_zero_le h0
  have hp : 0 < q := by rw [← hq]; exact Nat.pow_pos (by omega)
  rw [Int.toNat_natCast, fitsB, hq, Bool.eq_iff_iff]
  simp only [beq_iff_eq, decide_eq_true_eq]
  rw [← Int.natCast_ediv]
  constructor
  · intro h
    have : m / q = 0 := by omega
    rcases Nat.div_eq_zero_iff.1 this with h | h <;> omega
  · intro h
    rw [Nat.div_eq_of_lt h]
    rfl

theorem byte_of (n : Int) (h0 : 0 ≤ n) : Value.int .u8 (IntKind.u8.wrap n) = v8 (UInt8.ofNat n.toNat) := by
  obtain ⟨m, rfl⟩ := Int.eq_ofNat_of_zero_le h0
  simp only [v8, Int.toNat_natCast, IntKind.wrap_u8]
  congr 1

theorem ret_int {k : IntKind} {a b : Int} (h : a = b) : Ending.returned (.int k a) = .returned (.int k b) := by rw [h]
theorem ret_bool {a b : Bool} (h : a = b) : Ending.returned (.bool a) = .returned (.bool b) := by rw [h]
theorem val_int {k : IntKind} {a b : Int} (h : a = b) : Value.int k a = .int k b := by rw [h]

/-- One byte more: the list and the number behind a round of 'appendNumber'. -/
theorem leb_round (xs : List Value) (k m : Nat) : xs ++ ((leb k m).map v8 ++ [Value.int .u8 ((m : Int) / 256 ^ k % 256)]) = xs ++ (leb (k + 1) m).map v8 := by
  rw [leb_snoc, List.map_append, List.map_cons, List.map_nil]
  congr 3
theorem div_round (k m : Nat) : (m : Int) / 256 ^ k / 256 = ((m / 256 ^ (k + 1) : Nat) : Int) := by
  rw [Nat.pow_succ, ← Nat.div_div_eq_div_mul]
  simp

/-- A round of the document's Take: one byte more, from behind. -/
theorem take_round (l : List UInt8) (z j : Nat) (hj : j + 1 ≤ z) (hz : z ≤ 8) (hl : j < l.length) :
    IntKind.u64.wrap (IntKind.u64.wrap ((lev ((l.take z).drop (j + 1)) : Int) * 256) + IntKind.u64.wrap (l[j].toNat : Int)) = (lev ((l.take z).drop j) : Int) := by
  have hj' : j < (l.take z).length := by rw [List.length_take]; omega
  have e : (l.take z).drop j = l[j] :: (l.take z).drop (j + 1) := by
    rw [List.drop_eq_getElem_cons hj', List.getElem_take]
  have hb := lev_lt ((l.take z).drop (j + 1))
  have hlen : ((l.take z).drop (j + 1)).length ≤ 7 := by rw [List.length_drop, List.length_take]; omega
  have h7 : 256 ^ ((l.take z).drop (j + 1)).length ≤ 256 ^ 7 := Nat.pow_le_pow_right (by omega) hlen
  have h8 : (256 : Nat) ^ 7 = 72057594037927936 := by decide
  have hc := l[j].toNat_lt
  rw [e, lev]
  simp only [IntKind.wrap_u64]
  omega

theorem fitsI (n q : Int) (k : Nat) (h0 : 0 ≤ n) (hq : ((256 ^ k : Nat) : Int) = q) : (n / q == 0) = fitsB n.toNat k := by
  rw [← hq]; exact fits1 n k _ h0 rfl
theorem leb_round2 (xs : List Value) (k : Nat) (n : Int) (h0 : 0 ≤ n) : xs ++ ((leb k n.toNat).map v8 ++ [Value.int .u8 (n / 2 ^ (8 * k) % 256)]) = xs ++ (leb (k + 1) n.toNat).map v8 := by
  obtain ⟨m, rfl⟩ := Int.eq_ofNat_of_zero_le h0
  rw [pow_256, Int.toNat_natCast, ← leb_round]
  simp

theorem fsum_snoc : ∀ (a : List UInt8) (c : UInt8) (t : Nat), fsum a = some t → fsum (a ++ [c]) = if ltr c.toNat = 0 then none else some (t + ltr c.toNat)
  | [], c, t, h => by
    obtain rfl : 0 = t := by simpa [fsum] using h
    simp [fsum]
  | d :: r, c, t, h => by
    unfold fsum at h
    split at h
    · cases h
    · rename_i hd
      obtain ⟨u, hu, rfl⟩ := Option.map_eq_some_iff.1 h
      have ih := fsum_snoc r c u hu
      simp only [List.cons_append, fsum, hd, if_false, ih]
      split
      · rfl
      · simp [Nat.add_assoc]
theorem fsum_none_append : ∀ (a b : List UInt8), fsum a = none → fsum (a ++ b) = none
  | [], b, h => by simp [fsum] at h
  | d :: r, b, h => by
    simp only [List.cons_append, fsum] at h ⊢
    split
    · rfl
    · rename_i hd
      rw [if_neg hd] at h
      have : fsum r = none := by simpa using h
      rw [fsum_none_append r b this]
      rfl
theorem fsum_le : ∀ (a : List UInt8) (t : Nat), fsum a = some t → t ≤ 8 * a.length
  | [], t, h => by
    obtain rfl : 0 = t := by simpa [fsum] using h
    omega
  | d :: r, t, h => by
    unfold fsum at h
    split at h
    · cases h
    · obtain ⟨u, hu, rfl⟩ := Option.map_eq_some_iff.1 h
      have ih := fsum_le r u hu
      have := ltr_le d.toNat
      simp only [List.length_cons]
      omega
theorem fsum_step {l : List UInt8} {k t : Nat} (hk : k < l.length) (h : fsum (l.take k) = some t) (hc : ltr l[k].toNat ≠ 0) : fsum (l.take (k + 1)) = some (t + ltr l[k].toNat) := by
  rw [List.take_succ_eq_append_getElem hk, fsum_snoc _ _ _ h, if_neg hc]
theorem fsum_stop {l : List UInt8} {k t : Nat} (hk : k < l.length) (h : fsum (l.take k) = some t) (hc : ltr l[k].toNat = 0) : fsum l = none := by
  have e : fsum (l.take (k + 1)) = none := by rw [List.take_succ_eq_append_getElem hk, fsum_snoc _ _ _ h, if_pos hc]
  have := fsum_none_append _ (l.drop (k + 1)) e
  rwa [List.take_append_drop] at this

end Go.Wag
