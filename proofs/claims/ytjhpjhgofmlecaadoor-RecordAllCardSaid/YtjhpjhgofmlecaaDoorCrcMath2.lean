/-
  Plain facts on the check sum in the program's words: a table of what four steps do, products of polynomials, numbers of 32 bits as the model has them. No program is named here.
-/
import Derived.Test.YtjhpjhgofmlecaaDoorCrcMath
import Derived.Laws.BitsAllLaws
namespace Go.Wag

/-- A number of 32 bits as a cell. -/
def v32 (x : W32) : Value := .int .u32 (x.toNat : Int)

/-- What four steps do to numbers below 16, as the program's table has it. -/
def tab16 : List Int := [0, 274646895, 549293790, 820201905, 1098587580, 1361435347, 1640403810, 1905808397, 2197175160, 2460548119, 2722870694, 2987750089, 3280807620, 3553878443, 3811616794, 4084100981]
theorem tab_nat (i : Nat) (h : i < 16) : tab16.getD i 0 = ((steps 4 (BitVec.ofNat 32 i)).toNat : Int) := by
  have : ∀ j : Fin 16, tab16.getD j.val 0 = ((steps 4 (BitVec.ofNat 32 j.val)).toNat : Int) := by decide +kernel
  exact this ⟨i, h⟩

theorem and15_bit (v : W32) (i : Nat) : (v &&& 15#32).getLsbD i = (decide (i < 4) && v.getLsbD i) := by
  rw [BitVec.getLsbD_and, Bool.and_comm]
  congr 1
  by_cases h : i < 32
  · have : ∀ j : Fin 32, (15#32).getLsbD j.val = decide (j.val < 4) := by decide
    exact this ⟨i, h⟩
  · rw [BitVec.getLsbD_of_ge _ _ (by omega)]
    have : ¬ i < 4 := by omega
    simp [this]
theorem steps4_split (v : W32) : steps 4 v = (v >>> 4) ^^^ steps 4 (v &&& 15#32) := by
  have e : v = (v &&& 15#32) ^^^ (v ^^^ (v &&& 15#32)) := by
    rw [BitVec.xor_comm v, ← BitVec.xor_assoc, BitVec.xor_self, BitVec.zero_xor]
  have h : steps 4 (v ^^^ (v &&& 15#32)) = v >>> 4 := by
    rw [steps_low 4 _ (fun i hi => by rw [BitVec.getLsbD_xor, and15_bit]; simp [hi]), BitVec.ushiftRight_xor_distrib]
    have : (v &&& 15#32) >>> 4 = 0#32 := by
      apply BitVec.eq_of_getLsbD_eq
      intro i hi
      rw [BitVec.getLsbD_ushiftRight, and15_bit]
      have : ¬ 4 + i < 4 := by omega
      simp [this]
    rw [this, BitVec.xor_zero]
  conv => lhs; rw [e]
  rw [steps_xor, h, BitVec.xor_comm]
theorem w32i (x : W32) : (x.toNat : Int) < 4294967296 := by have := x.isLt; omega
theorem w32n (x : W32) : x.toNat < 4294967296 := x.isLt
theorem xor32 (x y : W32) : bits .xor .u32 (x.toNat : Int) (y.toNat : Int) = ((x ^^^ y).toNat : Int) := by
  rw [u32_xor_nat _ _ (w32n x) (w32n y), BitVec.toNat_xor]
theorem and32 (x y : W32) : bits .and .u32 (x.toNat : Int) (y.toNat : Int) = ((x &&& y).toNat : Int) := by
  rw [u32_and_nat _ _ (w32n x) (w32n y), BitVec.toNat_and]
theorem shr32 (x : W32) (k : Nat) (q : Int) (hq : ((2 ^ k : Nat) : Int) = q) : (x.toNat : Int) / q = ((x >>> k).toNat : Int) := by
  subst hq
  rw [BitVec.toNat_ushiftRight, Nat.shiftRight_eq_div_pow]
  rfl
theorem and15_lt (x : W32) : (x &&& 15#32).toNat < 16 := by
  rw [BitVec.toNat_and]
  exact Nat.lt_of_le_of_lt Nat.and_le_right (by decide)
/-- Half a byte of More. -/
theorem half32 (x : W32) : bits .xor .u32 ((x.toNat : Int) / 16) (tab16.getD (x &&& 15#32).toNat 0) = ((steps 4 x).toNat : Int) := by
  rw [tab_nat _ (and15_lt x), shr32 x 4 16 rfl, xor32, steps4_split x, BitVec.ofNat_toNat, BitVec.setWidth_eq]
theorem b32_nat (c : UInt8) : (b32 c).toNat = c.toNat := by
  have := c.toNat_lt
  simp only [b32, BitVec.toNat_ofNat]
  omega
theorem raw_snoc (x : W32) (l : List UInt8) (c : UInt8) : raw x (l ++ [c]) = steps 8 (raw x l ^^^ b32 c) := by rw [raw_append]; rfl

/-- A product of polynomials over bits, the highest bit the constant. -/
def prodN : Nat → W32 → W32 → W32
  | 0, _, _ => 0#32
  | k + 1, a, b => (if a.msb then b else 0#32) ^^^ prodN k (a <<< 1) (step1 b)
theorem prodN_zero : ∀ (k : Nat) (b : W32), prodN k 0#32 b = 0#32
  | 0, _ => rfl
  | k + 1, b => by
    rw [prodN, BitVec.zero_shiftLeft, prodN_zero k, BitVec.xor_zero]
    exact if_neg (by decide)
theorem step1_steps (n : Nat) (b : W32) : step1 (steps n b) = steps n (step1 b) := by
  have h1 := steps_add n 1 b
  have h2 := steps_add 1 n b
  rw [Nat.add_comm] at h1
  rw [h1] at h2
  exact h2
theorem prodN_steps (n : Nat) : ∀ (k : Nat) (a b : W32), prodN k a (steps n b) = steps n (prodN k a b)
  | 0, _, _ => (steps_zero n).symm
  | k + 1, a, b => by
    rw [prodN, prodN, steps_xor, step1_steps, prodN_steps n k]
    congr 1
    cases a.msb
    · exact (steps_zero n).symm
    · rfl
theorem step1_top (j : Nat) (h : j < 31) : step1 (0x80000000#32 >>> j) = 0x80000000#32 >>> (j + 1) := by
  have : ∀ i : Fin 31, step1 (0x80000000#32 >>> i.val) = 0x80000000#32 >>> (i.val + 1) := by decide +kernel
  exact this ⟨j, h⟩
theorem top_bit (j i : Nat) : (0x80000000#32 >>> j).getLsbD i = decide (i + j = 31) := by
  rw [BitVec.getLsbD_ushiftRight]
  by_cases h : j + i < 32
  · have : ∀ m : Fin 32, (0x80000000#32).getLsbD m.val = decide (m.val = 31) := by decide
    have := this ⟨j + i, h⟩
    simp only at this
    rw [this, decide_eq_decide]
    omega
  · rw [BitVec.getLsbD_of_ge _ _ (by omega)]
    have : ¬ i + j = 31 := by omega
    simp [this]
theorem prodN_top : ∀ (k j : Nat) (a : W32), j + k = 32 → prodN k a (0x80000000#32 >>> j) = a >>> j
  | 0, j, a, h => by
    obtain rfl : j = 32 := by omega
    apply BitVec.eq_of_getLsbD_eq
    intro i hi
    rw [BitVec.getLsbD_ushiftRight, BitVec.getLsbD_of_ge a _ (by omega)]
    exact BitVec.getLsbD_zero
  | k + 1, j, a, h => by
    have e : prodN k (a <<< 1) (step1 (0x80000000#32 >>> j)) = (a <<< 1) >>> (j + 1) := by
      by_cases hj : j < 31
      · rw [step1_top j hj]
        exact prodN_top k (j + 1) (a <<< 1) (by omega)
      · obtain rfl : k = 0 := by omega
        obtain rfl : j = 31 := by omega
        apply BitVec.eq_of_getLsbD_eq
        intro i hi
        rw [BitVec.getLsbD_ushiftRight, BitVec.getLsbD_of_ge (a <<< 1) _ (by omega)]
        exact BitVec.getLsbD_zero
    rw [prodN, e]
    apply BitVec.eq_of_getLsbD_eq
    intro i hi
    rw [BitVec.getLsbD_xor, BitVec.getLsbD_ushiftRight, BitVec.getLsbD_ushiftRight, BitVec.getLsbD_shiftLeft, BitVec.msb_eq_getLsbD_last]
    by_cases hij : i + j = 31
    · have h1 : j + i = 31 := by omega
      have h2 : ¬ j + 1 + i < 32 := by omega
      have h3 : decide (j + 1 + i < 32) = false := by simpa using h2
      show Bool.xor ((if a.getLsbD 31 then 0x80000000#32 >>> j else 0#32 : W32).getLsbD i) _ = _
      rw [h3, h1]
      cases hb : a.getLsbD 31
      · rw [if_neg (by simp), BitVec.getLsbD_zero]; rfl
      · rw [if_pos rfl, top_bit j i]; simp [hij]
    · have h0 : (if a.getLsbD (32 - 1) then 0x80000000#32 >>> j else 0#32 : W32).getLsbD i = false := by
        split
        · rw [top_bit j i]; simp [hij]
        · simp
      rw [h0, Bool.false_xor]
      by_cases h3 : j + 1 + i < 32
      · have h4 : j + 1 + i - 1 = j + i := by omega
        have h5 : ¬ j + 1 + i < 1 := by omega
        simp [h3, h4, h5]
      · have h4 : 32 ≤ j + i := by omega
        rw [BitVec.getLsbD_of_ge a _ h4]
        simp [h3]
/-- A product by so many steps of the constant is so many steps. -/
theorem prodN_all (a : W32) (m : Nat) : prodN 32 a (steps m 0x80000000#32) = steps m a := by
  rw [prodN_steps]
  have := prodN_top 32 0 a rfl
  rw [BitVec.ushiftRight_zero, BitVec.ushiftRight_zero] at this
  rw [this]
theorem steps8_top : steps 8 0x80000000#32 = 0x800000#32 := by decide +kernel
/-- A round of the program's Join. -/
theorem join_odd {m left n : Nat} {a a0 : W32} (h : steps (m * left) a = steps n a0) (ho : left % 2 = 1) : steps ((m + m) * (left / 2)) (steps m a) = steps n a0 := by
  rw [← h, ← steps_add]
  congr 1
  have e : left = 2 * (left / 2) + 1 := by omega
  generalize left / 2 = q at *
  subst e
  rw [Nat.mul_add, Nat.mul_one, Nat.add_mul, ← Nat.mul_assoc, Nat.mul_comm m 2, Nat.two_mul, Nat.add_mul, Nat.add_comm m]
theorem join_even {m left n : Nat} {a a0 : W32} (h : steps (m * left) a = steps n a0) (ho : left % 2 = 0) : steps ((m + m) * (left / 2)) a = steps n a0 := by
  rw [← h]
  congr 1
  have e : left = 2 * (left / 2) := by omega
  generalize left / 2 = q at *
  subst e
  rw [← Nat.mul_assoc, Nat.mul_comm m 2, Nat.two_mul]

theorem odd32 (x : W32) : (bits .and .u32 (x.toNat : Int) 1 == 1) = x.getLsbD 0 := by
  have e : bits .and .u32 (x.toNat : Int) 1 = ((x &&& 1#32).toNat : Int) := and32 x 1#32
  rw [e, BitVec.toNat_and]
  have h1 : x.toNat &&& (1#32).toNat = x.toNat % 2 := Nat.and_one_is_mod _
  rw [h1, Bool.eq_iff_iff, beq_iff_eq]
  simp only [BitVec.getLsbD, Nat.testBit_zero, decide_eq_true_eq]
  omega
theorem step_odd32 (x : W32) (h : (bits .and .u32 (x.toNat : Int) 1 == 1) = true) : bits .xor .u32 ((x.toNat : Int) / 2) 2197175160 = ((step1 x).toNat : Int) := by
  rw [odd32] at h
  have e : step1 x = (x >>> 1) ^^^ 0x82f63b78#32 := by unfold step1; rw [if_pos h]
  rw [e, shr32 x 1 2 rfl]
  exact xor32 (x >>> 1) 0x82f63b78#32
theorem step_even32 (x : W32) (h : (bits .and .u32 (x.toNat : Int) 1 == 1) = false) : (x.toNat : Int) / 2 = ((step1 x).toNat : Int) := by
  rw [odd32] at h
  have e : step1 x = x >>> 1 := by unfold step1; rw [h]; simp
  rw [e, shr32 x 1 2 rfl]
theorem shl32 (x : W32) : (x.toNat : Int) * 2 % 4294967296 = ((x <<< 1).toNat : Int) := by
  rw [BitVec.toNat_shiftLeft, Nat.shiftLeft_eq]
  omega
theorem ne0_32 {x : W32} (h : ((x.toNat : Int) != 0) = true) : x ≠ 0#32 := by
  rintro rfl
  simp at h
theorem eq0_32 {x : W32} (h : ¬ ((x.toNat : Int) != 0) = true) : x = 0#32 := by
  apply BitVec.eq_of_toNat_eq
  have : x.toNat = 0 := by simpa using h
  rw [this]; rfl
theorem top32 (x : W32) : ((x.toNat : Int) / 2147483648 == 1) = x.msb := by
  have := x.isLt
  rw [BitVec.msb_eq_decide, Bool.eq_iff_iff, beq_iff_eq, decide_eq_true_eq]
  omega
theorem prod_more {g : Nat} {a : W32} (h : a <<< g = 0#32) (h0 : ((a.toNat : Int) != 0) = true) : ∃ k, g = k + 1 := by
  cases g with
  | zero => exact absurd (by simpa using h) (ne0_32 h0)
  | succ k => exact ⟨k, rfl⟩
theorem prod_shift {k : Nat} {a : W32} (h : a <<< (k + 1) = 0#32) : (a <<< 1) <<< k = 0#32 := by
  rw [← BitVec.shiftLeft_add, Nat.add_comm]; exact h
theorem prod_no {k : Nat} {a b c p : W32} (h : a <<< (k + 1) = 0#32) (hp : c ^^^ prodN (k + 1) a b = p) (hm : ((a.toNat : Int) / 2147483648 == 1) = false) : (a <<< 1) <<< k = 0#32 ∧ c ^^^ prodN k (a <<< 1) (step1 b) = p := by
  rw [top32] at hm
  refine ⟨prod_shift h, ?_⟩
  rw [← hp, prodN, hm]
  simp
theorem prod_yes {k : Nat} {a b c p : W32} (h : a <<< (k + 1) = 0#32) (hp : c ^^^ prodN (k + 1) a b = p) (hm : ((a.toNat : Int) / 2147483648 == 1) = true) : (a <<< 1) <<< k = 0#32 ∧ c ^^^ b ^^^ prodN k (a <<< 1) (step1 b) = p := by
  rw [top32] at hm
  refine ⟨prod_shift h, ?_⟩
  rw [← hp, prodN, hm, if_pos rfl, BitVec.xor_assoc]
theorem prod_done {k : Nat} {a b c p : W32} (hp : c ^^^ prodN k a b = p) (h : ¬ ((a.toNat : Int) != 0) = true) : c = p := by
  rw [eq0_32 h, prodN_zero, BitVec.xor_zero] at hp
  exact hp
theorem xor_byte (y : W32) (c : UInt8) : bits .xor .u32 (y.toNat : Int) ((c.toNat : Int) % 4294967296) = ((y ^^^ b32 c).toNat : Int) := by
  have hc := c.toNat_lt
  have e : (c.toNat : Int) % 4294967296 = ((b32 c).toNat : Int) := by rw [b32_nat]; omega
  rw [e, xor32]
theorem and1_i64 (n : Int) : bits .and .i64 n 1 = n % 2 := by
  have h1 : (BitVec.ofInt 64 1).toNat = 2 ^ 1 - 1 := by decide
  have key : (BitVec.ofInt 64 n &&& BitVec.ofInt 64 1).toNat = (n % ((2 ^ 64 : Nat) : Int)).toNat % 2 ^ 1 := by
    rw [BitVec.toNat_and, BitVec.toNat_ofInt, h1, Nat.and_two_pow_sub_one_eq_mod]
  show IntKind.i64.wrap ((BitVec.ofInt 64 n &&& BitVec.ofInt 64 1).toNat : Nat) = n % 2
  rw [key, IntKind.wrap_i64]
  omega
theorem even_i64 (g : Nat) (h : (bits .and .i64 (g : Int) 1 == 1) = false) : g % 2 = 0 := by
  rw [and1_i64, beq_eq_false_iff_ne] at h
  omega
theorem odd_i64 (g : Nat) (h : (bits .and .i64 (g : Int) 1 == 1) = true) : g % 2 = 1 := by
  rw [and1_i64, beq_iff_eq] at h
  omega
theorem mod2_32 (x : W32) : ((x.toNat : Int) % 2 == 1) = x.getLsbD 0 := by
  have : x.getLsbD 0 = decide (x.toNat % 2 = 1) := by simp [BitVec.getLsbD, Nat.testBit_zero]
  rw [this, Bool.eq_iff_iff, beq_iff_eq, decide_eq_true_eq]
  omega
end Go.Wag
