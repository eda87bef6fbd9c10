/-
  Plain facts on the check sum: a step is linear and loses nothing; what a text does to a sum; joins; bits that are turned. No program is named here.
-/
import Derived.Test.YtjhpjhgofmlecaaDoorLeMath
namespace Go.Wag

abbrev W32 := BitVec 32
/-- A step (the chapter's Words), and so many. -/
def step1 (x : W32) : W32 := (x >>> 1) ^^^ (if x.getLsbD 0 then 0x82f63b78#32 else 0#32)
def steps : Nat → W32 → W32
  | 0, x => x
  | n + 1, x => steps n (step1 x)
/-- A byte as a number of 32 bits. -/
def b32 (c : UInt8) : W32 := BitVec.ofNat 32 c.toNat
/-- Bytes one by one, without turning. -/
def raw : W32 → List UInt8 → W32
  | x, [] => x
  | x, c :: r => raw (steps 8 (x ^^^ b32 c)) r
def ones : W32 := 0xffffffff#32
def moreF (s : W32) (l : List UInt8) : W32 := raw (s ^^^ ones) l ^^^ ones
def joinF (a b : W32) (n : Nat) : W32 := steps (8 * n) a ^^^ b

theorem step1_xor (x y : W32) : step1 (x ^^^ y) = step1 x ^^^ step1 y := by
  unfold step1
  rw [BitVec.ushiftRight_xor_distrib, BitVec.getLsbD_xor]
  cases x.getLsbD 0 <;> cases y.getLsbD 0
  · simp
  · simp [BitVec.xor_assoc]
  · simp only [Bool.xor_false, if_true, Bool.false_eq_true, if_false, BitVec.xor_zero]
    rw [BitVec.xor_assoc, BitVec.xor_assoc, BitVec.xor_comm (y >>> 1)]
  · simp only [Bool.xor_self, Bool.false_eq_true, if_false, if_true, BitVec.xor_zero]
    rw [BitVec.xor_assoc, ← BitVec.xor_assoc (0x82f63b78#32), BitVec.xor_comm (0x82f63b78#32), BitVec.xor_assoc, BitVec.xor_self, BitVec.xor_zero]
theorem step1_zero : step1 0#32 = 0#32 := by decide
theorem step1_inj0 {x : W32} (h : step1 x = 0#32) : x = 0#32 := by
  unfold step1 at h
  cases hx : x.getLsbD 0 with
  | true =>
    rw [hx, if_pos rfl] at h
    have h31 := congrArg (fun v : W32 => v.getLsbD 31) h
    simp at h31
  | false =>
    rw [hx] at h
    simp only [Bool.false_eq_true, if_false, BitVec.xor_zero] at h
    apply BitVec.eq_of_toNat_eq
    have h1 := congrArg BitVec.toNat h
    rw [BitVec.toNat_ushiftRight, Nat.shiftRight_eq_div_pow] at h1
    have h2 : x.toNat % 2 = 0 := by
      have : x.getLsbD 0 = decide (x.toNat % 2 = 1) := by simp [BitVec.getLsbD, Nat.testBit_zero]
      rw [this] at hx
      simp at hx
      omega
    simp at h1 ⊢
    omega

theorem steps_add : ∀ (m n : Nat) (x : W32), steps (m + n) x = steps n (steps m x)
  | 0, n, x => by simp [steps]
  | m + 1, n, x => by rw [Nat.add_right_comm]; exact steps_add m n (step1 x)
theorem steps_xor : ∀ (n : Nat) (x y : W32), steps n (x ^^^ y) = steps n x ^^^ steps n y
  | 0, _, _ => rfl
  | n + 1, x, y => by simp only [steps, step1_xor, steps_xor n]
theorem steps_zero : ∀ n : Nat, steps n 0#32 = 0#32
  | 0 => rfl
  | n + 1 => by simp only [steps, step1_zero, steps_zero n]
theorem steps_inj0 : ∀ (n : Nat) {x : W32}, steps n x = 0#32 → x = 0#32
  | 0, _, h => h
  | n + 1, _, h => step1_inj0 (steps_inj0 n h)
theorem xor_eq_zero {x y : W32} (h : x ^^^ y = 0#32) : x = y := by
  have : x ^^^ y ^^^ y = 0#32 ^^^ y := by rw [h]
  rwa [BitVec.xor_assoc, BitVec.xor_self, BitVec.xor_zero, BitVec.zero_xor] at this
theorem steps_inj {n : Nat} {x y : W32} (h : steps n x = steps n y) : x = y := by
  apply xor_eq_zero
  apply steps_inj0 n
  rw [steps_xor, h, BitVec.xor_self]

theorem b32_xor (c d : UInt8) : b32 (c ^^^ d) = b32 c ^^^ b32 d := by
  apply BitVec.eq_of_toNat_eq
  have hc := c.toNat_lt
  have hd := d.toNat_lt
  have hx : c.toNat ^^^ d.toNat < 2 ^ 8 := Nat.xor_lt_two_pow (by omega) (by omega)
  simp only [b32, BitVec.toNat_ofNat, BitVec.toNat_xor, UInt8.toNat_xor]
  rw [Nat.mod_eq_of_lt (by omega), Nat.mod_eq_of_lt (by omega), Nat.mod_eq_of_lt (by omega)]
theorem b32_zero : b32 0 = 0#32 := rfl
theorem b32_inj0 {c : UInt8} (h : b32 c = 0#32) : c = 0 := by
  apply UInt8.toNat_inj.1
  have hc := c.toNat_lt
  have := congrArg BitVec.toNat h
  simp only [b32, BitVec.toNat_ofNat] at this
  show c.toNat = 0
  omega

theorem raw_append : ∀ (a b : List UInt8) (x : W32), raw x (a ++ b) = raw (raw x a) b
  | [], _, _ => rfl
  | c :: r, b, x => by simp only [List.cons_append, raw, raw_append r b]
/-- Texts as long, changed by one another. -/
def xorL (a b : List UInt8) : List UInt8 := List.zipWith (· ^^^ ·) a b
theorem raw_xor : ∀ (a b : List UInt8) (x y : W32), a.length = b.length → raw (x ^^^ y) (xorL a b) = raw x a ^^^ raw y b
  | [], [], _, _, _ => rfl
  | [], _ :: _, _, _, h => by simp at h
  | _ :: _, [], _, _, h => by simp at h
  | c :: r, d :: s, x, y, h => by
    simp only [xorL, List.zipWith_cons_cons, raw, b32_xor]
    have e : x ^^^ y ^^^ (b32 c ^^^ b32 d) = (x ^^^ b32 c) ^^^ (y ^^^ b32 d) := by
      rw [BitVec.xor_assoc, BitVec.xor_assoc, ← BitVec.xor_assoc y, BitVec.xor_comm y, BitVec.xor_assoc]
    rw [e, steps_xor]
    exact raw_xor r s _ _ (by simpa using h)
/-- What a text does to a sum, and what it is by itself. -/
theorem raw_split : ∀ (l : List UInt8) (x : W32), raw x l = steps (8 * l.length) x ^^^ raw 0#32 l
  | [], x => by simp [raw, steps]
  | c :: r, x => by
    simp only [raw, List.length_cons]
    rw [raw_split r (steps 8 (x ^^^ b32 c)), raw_split r (steps 8 (0#32 ^^^ b32 c)), steps_xor 8 x, BitVec.zero_xor, steps_xor, Nat.mul_succ, Nat.add_comm, steps_add, BitVec.xor_assoc]
theorem moreF_append (s : W32) (a b : List UInt8) : moreF (moreF s a) b = moreF s (a ++ b) := by
  unfold moreF
  rw [raw_append, BitVec.xor_assoc, BitVec.xor_self, BitVec.xor_zero]
theorem moreF_nil (s : W32) : moreF s [] = s := by
  unfold moreF
  rw [raw, BitVec.xor_assoc, BitVec.xor_self, BitVec.xor_zero]
theorem joinF_sums (a b : List UInt8) : joinF (moreF 0#32 a) (moreF 0#32 b) b.length = moreF 0#32 (a ++ b) := by
  unfold joinF moreF
  rw [BitVec.zero_xor, raw_append, raw_split b (raw ones a), raw_split b ones, steps_xor]
  generalize steps (8 * b.length) (raw ones a) = p
  generalize steps (8 * b.length) ones = q
  generalize raw 0#32 b = r
  rw [BitVec.xor_assoc p q, ← BitVec.xor_assoc q, ← BitVec.xor_assoc q q, BitVec.xor_self, BitVec.zero_xor, BitVec.xor_assoc]
theorem joinF_assoc (x y z : W32) (m n : Nat) : joinF (joinF x y m) z n = joinF x (joinF y z n) (m + n) := by
  unfold joinF
  rw [steps_xor, Nat.mul_add, steps_add, BitVec.xor_assoc]

/-- A bit alone goes down a place a step. -/
theorem step1_shift (j : Nat) (hj : j < 31) : step1 (1#32 <<< (j + 1)) = 1#32 <<< j := by
  have : ∀ i : Fin 31, step1 (1#32 <<< (i.val + 1)) = 1#32 <<< i.val := by decide
  exact this ⟨j, hj⟩
theorem steps_shift : ∀ (j : Nat), j < 32 → steps j (1#32 <<< j) = 1#32
  | 0, _ => rfl
  | j + 1, h => by
    simp only [steps]
    rw [step1_shift j (by omega), steps_shift j (by omega)]

/-- Low bits that are 0 go out one by one. -/
theorem steps_low : ∀ (k : Nat) (v : W32), (∀ i, i < k → v.getLsbD i = false) → steps k v = v >>> k
  | 0, v, _ => by simp [steps]
  | k + 1, v, h => by
    have h0 : step1 v = v >>> 1 := by
      unfold step1
      rw [h 0 (by omega)]
      simp
    simp only [steps, h0]
    rw [steps_low k (v >>> 1) (fun i hi => by rw [BitVec.getLsbD_ushiftRight]; exact h _ (by omega)), ← BitVec.shiftRight_add, Nat.add_comm]
def lo8 (v : W32) : W32 := b32 (UInt8.ofNat v.toNat)
theorem lo8_bit (v : W32) (i : Nat) : (lo8 v).getLsbD i = (decide (i < 8) && v.getLsbD i) := by
  have e : (lo8 v).toNat = v.toNat % 2 ^ 8 := by
    simp only [lo8, b32, BitVec.toNat_ofNat, UInt8.toNat_ofNat']
    exact Nat.mod_eq_of_lt (by omega)
  simp only [BitVec.getLsbD, e, Nat.testBit_mod_two_pow]
theorem steps8_split (v : W32) : steps 8 v = steps 8 (lo8 v) ^^^ v >>> 8 := by
  have e : v = lo8 v ^^^ (v ^^^ lo8 v) := by
    rw [BitVec.xor_comm v, ← BitVec.xor_assoc, BitVec.xor_self, BitVec.zero_xor]
  have h : steps 8 (v ^^^ lo8 v) = v >>> 8 := by
    rw [steps_low 8 _ (fun i hi => by rw [BitVec.getLsbD_xor, lo8_bit]; simp [hi]), BitVec.ushiftRight_xor_distrib]
    have : lo8 v >>> 8 = 0#32 := by
      apply BitVec.eq_of_getLsbD_eq
      intro i hi
      rw [BitVec.getLsbD_ushiftRight, lo8_bit]
      have : ¬ 8 + i < 8 := by omega
      simp [this]
    rw [this, BitVec.xor_zero]
  conv => lhs; rw [e]
  rw [steps_xor, h]
/-- A number's own bytes, behind a sum. -/
theorem raw_leb : ∀ (k n : Nat) (x : W32), n < 256 ^ k → k ≤ 4 → raw x (leb k n) = steps (8 * k) (x ^^^ BitVec.ofNat 32 n)
  | 0, n, x, h, _ => by
    obtain rfl : n = 0 := by simpa using h
    simp [leb, raw, steps]
  | k + 1, n, x, h, hk => by
    have hp : 256 ^ (k + 1) ≤ 256 ^ 4 := Nat.pow_le_pow_right (by omega) hk
    have h4 : (256 : Nat) ^ 4 = 4294967296 := by decide
    have hd : n / 256 < 256 ^ k := by
      rw [Nat.pow_succ] at h
      exact Nat.div_lt_of_lt_mul (by rw [Nat.mul_comm]; exact h)
    have e1 : lo8 (BitVec.ofNat 32 n) = b32 (UInt8.ofNat n) := by
      unfold lo8
      congr 1
      rw [BitVec.toNat_ofNat, Nat.mod_eq_of_lt (by omega)]
    have e2 : (BitVec.ofNat 32 n) >>> 8 = BitVec.ofNat 32 (n / 256) := by
      apply BitVec.eq_of_toNat_eq
      rw [BitVec.toNat_ushiftRight, BitVec.toNat_ofNat, BitVec.toNat_ofNat, Nat.shiftRight_eq_div_pow, Nat.mod_eq_of_lt (by omega), Nat.mod_eq_of_lt (by omega)]
    simp only [leb, raw]
    rw [raw_leb k _ _ hd (by omega), Nat.mul_succ, Nat.add_comm, steps_add, steps_xor 8 x, steps_xor 8 x, steps8_split (BitVec.ofNat 32 n), e1, e2, ← BitVec.xor_assoc]

/-- A text with its sum; what opens. -/
def sealF (l : List UInt8) : List UInt8 := l ++ leb 4 (moreF 0#32 l).toNat
def openF (t : List UInt8) : Option (List UInt8) := if 4 ≤ t.length ∧ sealF (t.take (t.length - 4)) = t then some (t.take (t.length - 4)) else none
theorem w32_lt (x : W32) : x.toNat < 256 ^ 4 := by
  have h4 : (256 : Nat) ^ 4 = 4294967296 := by decide
  have := x.isLt
  omega
theorem raw_seal (l : List UInt8) : raw ones (sealF l) = steps 32 ones := by
  unfold sealF
  rw [raw_append, raw_leb 4 _ _ (w32_lt _) (Nat.le_refl _), BitVec.ofNat_toNat, BitVec.setWidth_eq]
  unfold moreF
  rw [BitVec.zero_xor, ← BitVec.xor_assoc, BitVec.xor_self, BitVec.zero_xor]
theorem seal_sum (l : List UInt8) : moreF 0#32 (sealF l) = 0x48674bc7#32 := by
  unfold moreF
  rw [BitVec.zero_xor, raw_seal]
  decide +kernel
theorem seal_iff {t : List UInt8} (h : 4 ≤ t.length) : sealF (t.take (t.length - 4)) = t ↔ raw ones t = steps 32 ones := by
  constructor
  · intro e
    rw [← e]; exact raw_seal _
  · intro e
    have ht : t = t.take (t.length - 4) ++ t.drop (t.length - 4) := (List.take_append_drop _ _).symm
    have hv : (t.drop (t.length - 4)).length = 4 := by rw [List.length_drop]; omega
    generalize t.take (t.length - 4) = u at *
    generalize t.drop (t.length - 4) = v at *
    have hl : v = leb 4 (lev v) := by rw [← hv]; exact (leb_lev v).symm
    have hlt : lev v < 256 ^ 4 := by rw [← hv]; exact lev_lt v
    rw [ht, raw_append, hl, raw_leb 4 _ _ hlt (Nat.le_refl _)] at e
    have e2 : raw ones u ^^^ BitVec.ofNat 32 (lev v) = ones := steps_inj e
    have e3 : moreF 0#32 u = BitVec.ofNat 32 (lev v) := by
      unfold moreF
      rw [BitVec.zero_xor]
      generalize raw ones u = r at e2
      rw [← e2, ← BitVec.xor_assoc, BitVec.xor_self, BitVec.zero_xor]
    unfold sealF
    have h4 : (256 : Nat) ^ 4 = 2 ^ 32 := by decide
    rw [e3, BitVec.toNat_ofNat, Nat.mod_eq_of_lt (by omega), ← hl]
    exact ht.symm
theorem sealF_length (l : List UInt8) : (sealF l).length = l.length + 4 := by simp [sealF, leb_length]
theorem open_seal (l : List UInt8) : openF (sealF l) = some l := by
  have e : (sealF l).take ((sealF l).length - 4) = l := by
    rw [sealF_length, Nat.add_sub_cancel, sealF, List.take_left]
  unfold openF
  rw [e, if_pos ⟨by rw [sealF_length]; omega, rfl⟩]
theorem open_iff {t : List UInt8} (h : 4 ≤ t.length) : (openF t).isSome = true ↔ raw ones t = steps 32 ones := by
  unfold openF
  rw [← seal_iff h]
  by_cases e : sealF (t.take (t.length - 4)) = t
  · rw [if_pos ⟨h, e⟩]; simp [e]
  · rw [if_neg (fun hh => e hh.2)]; simp [e]

/-- A byte that is changed. -/
theorem raw_set : ∀ (l : List UInt8) (i : Nat) (d : UInt8) (x : W32) (hi : i < l.length), raw x (l.set i (l[i] ^^^ d)) = raw x l ^^^ steps (8 * (l.length - i)) (b32 d)
  | [], _, _, _, h => by simp at h
  | c :: r, 0, d, x, _ => by
    simp only [List.set_cons_zero, List.getElem_cons_zero, raw, b32_xor, List.length_cons, Nat.sub_zero]
    rw [← BitVec.xor_assoc, steps_xor, raw_split r, raw_split r (steps 8 (x ^^^ b32 c)), steps_xor, Nat.mul_succ, Nat.add_comm (8 * r.length), steps_add, BitVec.xor_assoc, BitVec.xor_comm (steps (8 * r.length) (steps 8 (b32 d))), ← BitVec.xor_assoc]
  | c :: r, i + 1, d, x, h => by
    simp only [List.set_cons_succ, List.getElem_cons_succ, raw, List.length_cons, Nat.add_sub_add_right]
    exact raw_set r i d _ (by simpa using h)
theorem raw_set_ne {l : List UInt8} {i : Nat} {d : UInt8} {x : W32} (hi : i < l.length) (h : raw x (l.set i (l[i] ^^^ d)) = raw x l) : d = 0 := by
  rw [raw_set l i d x hi] at h
  apply b32_inj0
  apply steps_inj0 (8 * (l.length - i))
  have := congrArg (raw x l ^^^ ·) h
  simp only [← BitVec.xor_assoc, BitVec.xor_self, BitVec.zero_xor] at this
  exact this

/-- The lowest i bits of a number. -/
def lowb : Nat → W32 → W32
  | 0, _ => 0#32
  | i + 1, v => lowb i v ^^^ (if v.getLsbD i then 1#32 <<< i else 0#32)
theorem lowb_bit : ∀ (i : Nat) (v : W32) (k : Nat), i ≤ 32 → (lowb i v).getLsbD k = (decide (k < i) && v.getLsbD k)
  | 0, v, k, _ => by simp [lowb]
  | i + 1, v, k, h => by
    rw [lowb, BitVec.getLsbD_xor, lowb_bit i v k (by omega)]
    by_cases hk : k = i
    · subst hk
      cases hv : v.getLsbD k with
      | true => simp; omega
      | false => simp
    · have h1 : ((if v.getLsbD i then 1#32 <<< i else 0#32 : W32)).getLsbD k = false := by
        split
        · simp [BitVec.getLsbD_shiftLeft]
          intro _ h2
          omega
        · simp
      rw [h1, Bool.xor_false]
      congr 1
      rw [decide_eq_decide]
      omega
theorem lowb_all (v : W32) : lowb 32 v = v := by
  apply BitVec.eq_of_getLsbD_eq
  intro i hi
  rw [lowb_bit 32 v i (Nat.le_refl _)]
  simp [hi]

/-- Columns of a linear map, put together by a number's bits. -/
def colF (m : Nat → W32) : Nat → W32 → W32
  | 0, _ => 0#32
  | i + 1, v => colF m i v ^^^ (if v.getLsbD i then m i else 0#32)
theorem colF_low (k : Nat) : ∀ (i : Nat) (v : W32), colF (fun j => steps k (1#32 <<< j)) i v = steps k (lowb i v)
  | 0, _ => by simp [colF, lowb, steps_zero]
  | i + 1, v => by
    rw [colF, lowb, steps_xor, colF_low k i v]
    congr 1
    split
    · rfl
    · exact (steps_zero k).symm
theorem colF_all (k : Nat) (v : W32) : colF (fun j => steps k (1#32 <<< j)) 32 v = steps k v := by rw [colF_low, lowb_all]
/-- A bit of a text that is turned. -/
theorem b32_bit (j : Nat) (hj : j < 8) : b32 (1 <<< UInt8.ofNat j) = 1#32 <<< j := by
  have : ∀ i : Fin 8, b32 (1 <<< UInt8.ofNat i.val) = 1#32 <<< i.val := by decide
  exact this ⟨j, hj⟩
theorem steps_bit (M j : Nat) (hj : j < 32) (hM : j ≤ M) : steps M (1#32 <<< j) = steps (M - j) 1#32 := by
  have e : M = j + (M - j) := by omega
  conv => lhs; rw [e]
  rw [steps_add, steps_shift j hj]
theorem raw_flip (l : List UInt8) (k : Nat) (x : W32) (h : k / 8 < l.length) (u : UInt8) (hu : b32 u = 1#32 <<< (k % 8)) :
    raw x (l.set (k / 8) (l[k / 8] ^^^ u)) = raw x l ^^^ steps (8 * l.length - k) 1#32 := by
  rw [raw_set l (k / 8) u x h, hu, steps_bit _ (k % 8) (by omega) (by omega)]
  congr 2
  omega
/-- Bits that lie within thirty-two, turned one by one: the text behind i of them. -/
theorem raw_burst {s t : List UInt8} {from_ i : Nat} {v x : W32} (hi : i < 32) (hl : t.length = s.length) (hf : from_ + 32 ≤ 8 * s.length)
    (h : raw x t = raw x s ^^^ steps (8 * s.length - from_) (lowb i v)) (hk : (from_ + i) / 8 < t.length) (hv : v.getLsbD i = true) (u : UInt8) (hu : b32 u = 1#32 <<< ((from_ + i) % 8)) :
    raw x (t.set ((from_ + i) / 8) (t[(from_ + i) / 8] ^^^ u)) = raw x s ^^^ steps (8 * s.length - from_) (lowb (i + 1) v) := by
  rw [raw_flip t (from_ + i) x hk u hu, h, lowb, hv, if_pos rfl, steps_xor, steps_bit (8 * s.length - from_) i hi (by omega), hl, BitVec.xor_assoc]
  congr 3
  omega
theorem burst_opens {s t : List UInt8} {M : Nat} {v : W32} (hl : t.length = s.length) (h4 : 4 ≤ s.length) (hs : raw ones s = steps 32 ones) (h : raw ones t = raw ones s ^^^ steps M v) : (openF t).isSome = true ↔ v = 0#32 := by
  rw [open_iff (by omega), h, hs]
  constructor
  · intro e
    apply steps_inj0 M
    have := congrArg (steps 32 ones ^^^ ·) e
    simp only [← BitVec.xor_assoc, BitVec.xor_self, BitVec.zero_xor] at this
    exact this
  · rintro rfl
    rw [steps_zero, BitVec.xor_zero]
/-- Three texts as long. -/
theorem moreF_xor3 (a b c : List UInt8) (h1 : a.length = b.length) (h2 : b.length = c.length) : moreF 0#32 (xorL (xorL a b) c) = moreF 0#32 a ^^^ moreF 0#32 b ^^^ moreF 0#32 c := by
  have hl : (xorL a b).length = c.length := by simp [xorL]; omega
  unfold moreF
  rw [BitVec.zero_xor]
  have e : ones = (ones ^^^ ones) ^^^ ones := by decide
  conv => lhs; rw [e]
  rw [raw_xor _ _ _ _ hl, raw_xor _ _ _ _ h1, BitVec.xor_self]
  generalize raw ones a = p
  generalize raw ones b = q
  generalize raw ones c = r
  rw [BitVec.zero_xor, BitVec.xor_assoc p ones, ← BitVec.xor_assoc ones q, BitVec.xor_comm ones q, BitVec.xor_assoc q, BitVec.xor_self, BitVec.xor_zero, ← BitVec.xor_assoc (p ^^^ q)]

end Go.Wag
