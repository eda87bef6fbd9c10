/-
  Plain facts on forms: numbers by a form, and back, letter by letter. No program is named here.
-/
import Derived.Test.YtagageidiebogaaLeMath
namespace Go.Wag

theorem fsum_letter : ∀ (l : List UInt8) (t : Nat), fsum l = some t → ∀ k (hk : k < l.length), ltr l[k].toNat ≠ 0
  | [], _, _, k, hk => by simp at hk
  | d :: r, t, h, k, hk => by
    unfold fsum at h
    split at h
    · cases h
    · rename_i hd
      obtain ⟨u, hu, rfl⟩ := Option.map_eq_some_iff.1 h
      cases k with
      | zero => exact hd
      | succ k => exact fsum_letter r u hu k (by simpa using hk)
theorem fsum_ascii {l : List UInt8} {t : Nat} (h : fsum l = some t) (k : Nat) (hk : k < l.length) : l[k].toNat < 128 := by
  rcases Nat.lt_or_ge l[k].toNat 128 with h1 | h1
  · exact h1
  · exact absurd (ltr_high (c := (l[k].toNat : Int)) (by omega)) (fsum_letter l t h k hk)
theorem fsum_append : ∀ (a b : List UInt8), fsum (a ++ b) = (fsum a).bind fun x => (fsum b).map (x + ·)
  | [], b => by simp [fsum]
  | d :: r, b => by
    simp only [List.cons_append, fsum]
    split
    · rfl
    · rw [fsum_append r b]
      cases fsum r <;> cases fsum b <;> simp [Nat.add_assoc]

theorem packF_len : ∀ (l : List UInt8) (ns : List UInt64), l.length ≠ ns.length → packF l ns = none
  | [], [], h => absurd rfl h
  | [], _ :: _, _ => rfl
  | _ :: _, [], _ => rfl
  | c :: r, n :: ns, h => by
    simp only [List.length_cons] at h
    simp only [packF]
    split
    · rfl
    · rw [packF_len r ns (by omega)]; rfl
theorem packF_none : ∀ (l : List UInt8) (ns : List UInt64), fsum l = none → packF l ns = none
  | [], _, h => by simp [fsum] at h
  | _ :: _, [], _ => rfl
  | c :: r, n :: ns, h => by
    simp only [packF, fsum] at h ⊢
    split
    · rfl
    · rename_i hc
      rw [if_neg (fun e => hc (.inl e))] at h
      rw [packF_none r ns (by simpa using h)]; rfl
theorem packF_snoc : ∀ (a : List UInt8) (ns : List UInt64) (bs : List UInt8) (c : UInt8) (x : UInt64), packF a ns = some bs →
    packF (a ++ [c]) (ns ++ [x]) = if ltr c.toNat = 0 ∨ fitsB x.toNat (ltr c.toNat) = false then none else some (bs ++ leb (ltr c.toNat) x.toNat)
  | [], [], bs, c, x, h => by
    obtain rfl : [] = bs := by simpa [packF] using h
    simp [packF]
  | [], _ :: _, _, _, _, h => by simp [packF] at h
  | _ :: _, [], _, _, _, h => by simp [packF] at h
  | d :: r, n :: ns, bs, c, x, h => by
    simp only [packF] at h
    split at h
    · cases h
    · rename_i hd
      obtain ⟨u, hu, rfl⟩ := Option.map_eq_some_iff.1 h
      simp only [List.cons_append, packF, hd, if_false, packF_snoc r ns u c x hu]
      split <;> simp [List.append_assoc]
theorem packF_none_append : ∀ (a : List UInt8) (ns : List UInt64) (b : List UInt8) (ms : List UInt64), a.length = ns.length → packF a ns = none → packF (a ++ b) (ns ++ ms) = none
  | [], [], _, _, _, h => by simp [packF] at h
  | [], _ :: _, _, _, hl, _ => by simp at hl
  | _ :: _, [], _, _, hl, _ => by simp at hl
  | c :: r, n :: ns, b, ms, hl, h => by
    simp only [List.cons_append, packF] at h ⊢
    split
    · rfl
    · rename_i hc
      rw [if_neg hc] at h
      rw [packF_none_append r ns b ms (by simpa using hl) (by simpa using h)]; rfl
theorem packF_step {l : List UInt8} {ns : List UInt64} {bs : List UInt8} {k : Nat} (hk : k < l.length) (hn : k < ns.length) (h : packF (l.take k) (ns.take k) = some bs) (hc : ltr l[k].toNat ≠ 0) (hf : fitsB ns[k].toNat (ltr l[k].toNat) = true) :
    packF (l.take (k + 1)) (ns.take (k + 1)) = some (bs ++ leb (ltr l[k].toNat) ns[k].toNat) := by
  rw [List.take_succ_eq_append_getElem hk, List.take_succ_eq_append_getElem hn, packF_snoc _ _ _ _ _ h, if_neg]
  rintro (e | e)
  · exact hc e
  · rw [hf] at e; cases e
theorem packF_stop {l : List UInt8} {ns : List UInt64} {bs : List UInt8} {k : Nat} (hk : k < l.length) (hn : k < ns.length) (h : packF (l.take k) (ns.take k) = some bs) (hf : ltr l[k].toNat = 0 ∨ fitsB ns[k].toNat (ltr l[k].toNat) = false) : packF l ns = none := by
  have e : packF (l.take (k + 1)) (ns.take (k + 1)) = none := by
    rw [List.take_succ_eq_append_getElem hk, List.take_succ_eq_append_getElem hn, packF_snoc _ _ _ _ _ h, if_pos hf]
  have := packF_none_append _ _ (l.drop (k + 1)) (ns.drop (k + 1)) (by simp only [List.length_take]; omega) e
  rwa [List.take_append_drop, List.take_append_drop] at this
theorem packF_le : ∀ (l : List UInt8) (ns : List UInt64) (bs : List UInt8), packF l ns = some bs → fsum l = some bs.length
  | [], [], bs, h => by
    obtain rfl : [] = bs := by simpa [packF] using h
    rfl
  | [], _ :: _, _, h => by simp [packF] at h
  | _ :: _, [], _, h => by simp [packF] at h
  | c :: r, n :: ns, bs, h => by
    simp only [packF] at h
    split at h
    · cases h
    · rename_i hd
      obtain ⟨u, hu, rfl⟩ := Option.map_eq_some_iff.1 h
      simp only [fsum, packF_le r ns u hu, if_neg (fun e => hd (.inl e)), Option.map_some, List.length_append, leb_length]

theorem unpackF_sum : ∀ (l b : List UInt8) (out : List UInt64), unpackF l b = some out → fsum l = some b.length
  | [], b, out, h => by
    simp only [unpackF] at h
    split at h
    · rename_i hb; subst hb; rfl
    · cases h
  | c :: r, b, out, h => by
    simp only [unpackF] at h
    split at h
    · cases h
    · rename_i hd
      obtain ⟨u, hu, rfl⟩ := Option.map_eq_some_iff.1 h
      simp only [fsum, unpackF_sum r _ u hu, if_neg (fun e => hd (.inl e)), Option.map_some, List.length_drop]
      congr 1
      have : ¬ b.length < ltr c.toNat := fun e => hd (.inr e)
      omega
theorem unpackF_none {l b : List UInt8} (h : fsum l ≠ some b.length) : unpackF l b = none := by
  cases e : unpackF l b with
  | none => rfl
  | some out => exact absurd (unpackF_sum l b out e) h
theorem unpackF_snoc : ∀ (a b1 b2 : List UInt8) (out : List UInt64) (c : UInt8), unpackF a b1 = some out → ltr c.toNat ≠ 0 → b2.length = ltr c.toNat → unpackF (a ++ [c]) (b1 ++ b2) = some (out ++ [UInt64.ofNat (lev b2)])
  | [], b1, b2, out, c, h, hc, hl => by
    simp only [unpackF] at h
    split at h
    · rename_i hb
      subst hb
      obtain rfl : [] = out := by simpa using h
      have hn : ¬ (ltr c.toNat = 0 ∨ b2.length < ltr c.toNat) := by
        rintro (e | e)
        · exact hc e
        · omega
      rw [List.nil_append, List.nil_append, unpackF, if_neg hn, List.drop_eq_nil_of_le (by omega), List.take_of_length_le (by omega)]
      rfl
    · cases h
  | d :: r, b1, b2, out, c, h, hc, hl => by
    simp only [unpackF] at h
    split at h
    · cases h
    · rename_i hd
      obtain ⟨u, hu, rfl⟩ := Option.map_eq_some_iff.1 h
      have hd1 : ¬ ltr d.toNat = 0 := fun e => hd (.inl e)
      have hd2 : ¬ b1.length < ltr d.toNat := fun e => hd (.inr e)
      have hn : ¬ (ltr d.toNat = 0 ∨ (b1 ++ b2).length < ltr d.toNat) := by
        rintro (e | e)
        · exact hd1 e
        · rw [List.length_append] at e; omega
      rw [List.cons_append, unpackF, if_neg hn, List.drop_append_of_le_length (by omega), List.take_append_of_le_length (by omega), unpackF_snoc r _ b2 u c hu hc hl]
      rfl
theorem unpackF_step {l b : List UInt8} {out : List UInt64} {k at_ : Nat} (hk : k < l.length) (h : unpackF (l.take k) (b.take at_) = some out) (hc : ltr l[k].toNat ≠ 0) (hl : at_ + ltr l[k].toNat ≤ b.length) :
    unpackF (l.take (k + 1)) (b.take (at_ + ltr l[k].toNat)) = some (out ++ [UInt64.ofNat (lev ((b.take (at_ + ltr l[k].toNat)).drop at_))]) := by
  have e : b.take (at_ + ltr l[k].toNat) = b.take at_ ++ (b.take (at_ + ltr l[k].toNat)).drop at_ := by
    have := (List.take_append_drop at_ (b.take (at_ + ltr l[k].toNat))).symm
    rwa [List.take_take, Nat.min_eq_left (by omega)] at this
  rw [List.take_succ_eq_append_getElem hk]
  conv => lhs; rw [e]
  exact unpackF_snoc _ _ _ _ _ h hc (by rw [List.length_drop, List.length_take]; omega)

theorem lev_u64 (b : List UInt8) (h : b.length ≤ 8) : ((UInt64.ofNat (lev b)).toNat : Int) = (lev b : Int) := by
  have h1 := lev_lt b
  have h2 : 256 ^ b.length ≤ 256 ^ 8 := Nat.pow_le_pow_right (by omega) h
  have h3 : (256 : Nat) ^ 8 = 18446744073709551616 := by decide
  have : (UInt64.ofNat (lev b)).toNat = lev b := by
    rw [UInt64.toNat_ofNat']
    exact Nat.mod_eq_of_lt (by show lev b < 18446744073709551616; omega)
  omega
theorem v64_lev (b : List UInt8) (h : b.length ≤ 8) : v64 (UInt64.ofNat (lev b)) = .int .u64 (lev b : Int) := by unfold v64; rw [lev_u64 b h]
theorem u64_lt (x : UInt64) : (x.toNat : Int) < 18446744073709551616 := by have := x.toNat_lt; omega

end Go.Wag
