/-
  Plain facts on extents: no program is named here.
-/
import Derived.Test.YtagageidiebogaaLeMath2
namespace Go.Wag
open Go.RowKit
set_option linter.unusedVariables false
set_option maxRecDepth 20000

/-- An extent as data: Lba, Len, Kind, Gen, Data. -/
structure Xp where
  la : Int
  n : Int
  k : Int
  g : Int
  l : List UInt8
/-- Whether an extent may be: m: how many bytes. -/
def xchk (la n k g m : Int) : Bool := decide (0 ≤ la ∧ 1 ≤ n ∧ la + n ≤ 64 ∧ 0 ≤ k ∧ k ≤ 2 ∧ 0 ≤ g ∧ g ≤ 2147483647 ∧ (k = 2 → m = 32 * n) ∧ (k ≠ 2 → m = 0))
def Xp.ok (x : Xp) : Bool := xchk x.la x.n x.k x.g x.l.length
theorem xchk_all {la n k g m : Int} (h : xchk la n k g m = true) : 0 ≤ la ∧ 1 ≤ n ∧ la + n ≤ 64 ∧ 0 ≤ k ∧ k ≤ 2 ∧ 0 ≤ g ∧ g ≤ 2147483647 ∧ (k = 2 → m = 32 * n) ∧ (k ≠ 2 → m = 0) := by
  simpa only [xchk, decide_eq_true_eq] using h
theorem Xp.all {x : Xp} (h : x.ok = true) : 0 ≤ x.la ∧ 1 ≤ x.n ∧ x.la + x.n ≤ 64 ∧ 0 ≤ x.k ∧ x.k ≤ 2 ∧ 0 ≤ x.g ∧ x.g ≤ 2147483647 ∧ (x.k = 2 → (x.l.length : Int) = 32 * x.n) ∧ (x.k ≠ 2 → x.l = []) := by
  have := xchk_all h
  refine ⟨this.1, this.2.1, this.2.2.1, this.2.2.2.1, this.2.2.2.2.1, this.2.2.2.2.2.1, this.2.2.2.2.2.2.1, this.2.2.2.2.2.2.2.1, fun hk => ?_⟩
  have h2 := this.2.2.2.2.2.2.2.2 hk
  exact List.length_eq_zero_iff.1 (by omega)
theorem Xp.ok_of {x : Xp} (h1 : 0 ≤ x.la) (h2 : 1 ≤ x.n) (h3 : x.la + x.n ≤ 64) (h4 : 0 ≤ x.k) (h5 : x.k ≤ 2) (h6 : 0 ≤ x.g) (h7 : x.g ≤ 2147483647) (h8 : x.k = 2 → (x.l.length : Int) = 32 * x.n) (h9 : x.k ≠ 2 → x.l = []) : x.ok = true := by
  simp only [Xp.ok, xchk, decide_eq_true_eq]
  refine ⟨h1, h2, h3, h4, h5, h6, h7, h8, fun hk => ?_⟩
  rw [h9 hk]
  rfl
theorem Xp.len_le {x : Xp} (h : x.ok = true) : x.l.length ≤ 2048 := by
  obtain ⟨h1, h2, h3, _, _, _, _, h8, h9⟩ := Xp.all h
  by_cases hk : x.k = 2
  · have := h8 hk
    omega
  · rw [h9 hk]
    decide

/-- Its bytes. -/
def xby (x : Xp) : List UInt8 := if x.k = 2 then x.l else List.replicate (32 * x.n).toNat 0
def xbytes (x : Xp) : List UInt8 := if x.ok then xby x else []
theorem xby_length {x : Xp} (h : x.ok = true) : ((xby x).length : Int) = 32 * x.n := by
  obtain ⟨h1, h2, h3, _, _, _, _, h8, h9⟩ := Xp.all h
  unfold xby
  split
  · rename_i hk
    exact h8 hk
  · rw [List.length_replicate]
    omega

/-- The part of it within m blocks from a on. -/
def xlo (x : Xp) (a : Int) : Int := max x.la a
def xhi (x : Xp) (a m : Int) : Int := min (x.la + x.n) (a + m)
def xpart (x : Xp) (s e : Int) : Xp := ⟨s, e - s, x.k, x.g, (x.l.take (32 * (e - x.la)).toNat).drop (32 * (s - x.la)).toNat⟩
def xcut (x : Xp) (a m : Int) : Option Xp := if x.ok = true ∧ 0 ≤ a ∧ a ≤ 64 ∧ 0 ≤ m ∧ m ≤ 64 ∧ xlo x a < xhi x a m then some (xpart x (xlo x a) (xhi x a m)) else none
theorem xpart_ok {x : Xp} (h : x.ok = true) {s e : Int} (h1 : x.la ≤ s) (h2 : s < e) (h3 : e ≤ x.la + x.n) : (xpart x s e).ok = true := by
  obtain ⟨a1, a2, a3, a4, a5, a6, a7, a8, a9⟩ := Xp.all h
  refine Xp.ok_of (by show 0 ≤ s; omega) (by show 1 ≤ e - s; omega) (by show s + (e - s) ≤ 64; omega) a4 a5 a6 a7 (fun hk => ?_) (fun hk => ?_)
  · have := a8 hk
    show (((x.l.take (32 * (e - x.la)).toNat).drop (32 * (s - x.la)).toNat).length : Int) = 32 * (e - s)
    rw [List.length_drop, List.length_take]
    omega
  · show (x.l.take (32 * (e - x.la)).toNat).drop (32 * (s - x.la)).toNat = []
    rw [a9 hk]
    simp
theorem xcut_some {x y : Xp} {a m : Int} (h : xcut x a m = some y) : x.ok = true ∧ 0 ≤ a ∧ a ≤ 64 ∧ 0 ≤ m ∧ m ≤ 64 ∧ xlo x a < xhi x a m ∧ y = xpart x (xlo x a) (xhi x a m) := by
  unfold xcut at h
  split at h
  · rename_i hc
    cases h
    exact ⟨hc.1, hc.2.1, hc.2.2.1, hc.2.2.2.1, hc.2.2.2.2.1, hc.2.2.2.2.2, rfl⟩
  · cases h
theorem xcut_ok {x y : Xp} {a m : Int} (h : xcut x a m = some y) : y.ok = true := by
  obtain ⟨h1, _, _, _, _, h6, rfl⟩ := xcut_some h
  unfold xlo xhi at *
  exact xpart_ok h1 (by omega) h6 (by omega)

/-- Whether b goes on a; both as one. -/
def xjoins (a b : Xp) : Bool := a.ok && b.ok && decide (a.la + a.n = b.la ∧ a.k = b.k ∧ a.g = b.g)
def xboth (a b : Xp) : Xp := ⟨a.la, a.n + b.n, a.k, a.g, a.l ++ b.l⟩
def xjoin (a b : Xp) : Option Xp := if xjoins a b then some (xboth a b) else none
theorem xjoins_all {a b : Xp} (h : xjoins a b = true) : a.ok = true ∧ b.ok = true ∧ a.la + a.n = b.la ∧ a.k = b.k ∧ a.g = b.g := by
  simp only [xjoins, Bool.and_eq_true, decide_eq_true_eq] at h
  exact ⟨h.1.1, h.1.2, h.2.1, h.2.2.1, h.2.2.2⟩
theorem xboth_ok {a b : Xp} (h : xjoins a b = true) : (xboth a b).ok = true := by
  obtain ⟨h1, h2, h3, h4, h5⟩ := xjoins_all h
  obtain ⟨a1, a2, a3, a4, a5, a6, a7, a8, a9⟩ := Xp.all h1
  obtain ⟨b1, b2, b3, b4, b5, b6, b7, b8, b9⟩ := Xp.all h2
  refine Xp.ok_of a1 (by show 1 ≤ a.n + b.n; omega) (by show a.la + (a.n + b.n) ≤ 64; omega) a4 a5 a6 a7 (fun hk => ?_) (fun hk => ?_)
  · have e1 := a8 hk
    have e2 := b8 (h4 ▸ hk)
    show ((a.l ++ b.l).length : Int) = 32 * (a.n + b.n)
    rw [List.length_append]
    omega
  · show a.l ++ b.l = []
    rw [a9 hk, b9 (h4 ▸ hk)]
    rfl
theorem xby_both {a b : Xp} (h : xjoins a b = true) : xby (xboth a b) = xby a ++ xby b := by
  obtain ⟨h1, h2, h3, h4, h5⟩ := xjoins_all h
  obtain ⟨a1, a2, a3, a4, a5, a6, a7, a8, a9⟩ := Xp.all h1
  obtain ⟨b1, b2, b3, b4, b5, b6, b7, b8, b9⟩ := Xp.all h2
  unfold xby xboth
  by_cases hk : a.k = 2
  · rw [if_pos hk, if_pos hk, if_pos (h4 ▸ hk)]
  · rw [if_neg hk, if_neg hk, if_neg (h4 ▸ hk)]
    show List.replicate (32 * (a.n + b.n)).toNat 0 = _
    rw [show (32 * (a.n + b.n)).toNat = (32 * a.n).toNat + (32 * b.n).toNat by omega, List.replicate_append_replicate]

/-! Parts, and parts of parts. -/
theorem xpart_all {x : Xp} (h : x.ok = true) : xpart x x.la (x.la + x.n) = x := by
  obtain ⟨a1, a2, a3, a4, a5, a6, a7, a8, a9⟩ := Xp.all h
  have e1 : x.la + x.n - x.la = x.n := by omega
  have e2 : (32 * (x.la - x.la)).toNat = 0 := by omega
  have e3 : x.l.take (32 * x.n).toNat = x.l := by
    by_cases hk : x.k = 2
    · have := a8 hk
      exact List.take_of_length_le (by omega)
    · rw [a9 hk]
      simp
  unfold xpart
  rw [e1, e2, List.drop_zero, e3]
theorem xpart_join {x : Xp} (h : x.ok = true) {s m e : Int} (h1 : x.la ≤ s) (h2 : s < m) (h3 : m < e) (h4 : e ≤ x.la + x.n) : xjoins (xpart x s m) (xpart x m e) = true ∧ xboth (xpart x s m) (xpart x m e) = xpart x s e := by
  have o1 := xpart_ok h h1 h2 (by omega)
  have o2 := xpart_ok h (by omega) h3 h4
  refine ⟨?_, ?_⟩
  · simp only [xjoins, o1, o2, Bool.true_and, decide_eq_true_eq]
    refine ⟨?_, rfl, rfl⟩
    show s + (m - s) = m
    omega
  · unfold xboth xpart
    simp only [Xp.mk.injEq, true_and]
    refine ⟨by omega, ?_⟩
    have hs : (32 * (s - x.la)).toNat ≤ (32 * (m - x.la)).toNat := by omega
    have hm : (32 * (m - x.la)).toNat ≤ (32 * (e - x.la)).toNat := by omega
    generalize (32 * (s - x.la)).toNat = i at *
    generalize (32 * (m - x.la)).toNat = j at *
    generalize (32 * (e - x.la)).toNat = k at *
    have : (x.l.take k).drop i = ((x.l.take k).take j).drop i ++ (x.l.take k).drop j := by
      conv => lhs; rw [← List.take_append_drop j (x.l.take k)]
      rw [List.drop_append]
      congr 1
      rw [List.length_take, List.length_take]
      by_cases hl : i - min j (min k x.l.length) = 0
      · rw [hl, List.drop_zero]
      · rw [List.drop_of_length_le (by simp only [List.length_drop, List.length_take]; omega), List.drop_of_length_le (by simp only [List.length_take]; omega)]
    rw [this, List.take_take, Nat.min_eq_left hm]
theorem xpart_part {x : Xp} {s e s2 e2 : Int} (h1 : x.la ≤ s) (h2 : s ≤ s2) (h3 : e2 ≤ e) (h4 : s2 ≤ e2) : xpart (xpart x s e) s2 e2 = xpart x s2 e2 := by
  unfold xpart
  simp only [Xp.mk.injEq, true_and]
  have e1 : (32 * (e2 - s)).toNat = (32 * (e2 - x.la)).toNat - (32 * (s - x.la)).toNat := by omega
  have e3 : (32 * (s2 - s)).toNat = (32 * (s2 - x.la)).toNat - (32 * (s - x.la)).toNat := by omega
  rw [e1, e3]
  have k1 : (32 * (s - x.la)).toNat ≤ (32 * (s2 - x.la)).toNat := by omega
  have k2 : (32 * (s2 - x.la)).toNat ≤ (32 * (e2 - x.la)).toNat := by omega
  have k3 : (32 * (e2 - x.la)).toNat ≤ (32 * (e - x.la)).toNat := by omega
  generalize (32 * (s - x.la)).toNat = i at *
  generalize (32 * (s2 - x.la)).toNat = j at *
  generalize (32 * (e2 - x.la)).toNat = k at *
  generalize (32 * (e - x.la)).toNat = m at *
  rw [List.take_drop, List.drop_drop, List.take_take]
  congr 1
  · omega
  · congr 1
    omega
theorem xby_part {x : Xp} (h : x.ok = true) {s e : Int} (h1 : x.la ≤ s) (h2 : s < e) (h3 : e ≤ x.la + x.n) : xby (xpart x s e) = ((xby x).take (32 * (e - x.la)).toNat).drop (32 * (s - x.la)).toNat := by
  unfold xby
  by_cases hk : x.k = 2
  · rw [if_pos hk, if_pos (show (xpart x s e).k = 2 from hk)]
    rfl
  · rw [if_neg hk, if_neg (show ¬ (xpart x s e).k = 2 from hk), List.take_replicate, List.drop_replicate]
    congr 1
    show (32 * (e - s)).toNat = _
    omega

/-! Written, and read. -/
def xhead (x : Xp) : List UInt8 := leb 1 x.la.toNat ++ (leb 1 x.n.toNat ++ (leb 1 x.k.toNat ++ leb 4 x.g.toNat))
def xenc (x : Xp) : List UInt8 := xhead x ++ x.l
def xencs (l : List Xp) : List UInt8 := (l.map xenc).flatten
def xallok (l : List Xp) : Bool := l.all Xp.ok
def xwr (l : List Xp) : Option (List UInt8) := if l.length ≤ 64 ∧ xallok l = true then some (UInt8.ofNat l.length :: xencs l) else none
theorem xhead_length (x : Xp) : (xhead x).length = 7 := by simp [xhead, leb_length]
theorem xenc_length (x : Xp) : (xenc x).length = 7 + x.l.length := by rw [xenc, List.length_append, xhead_length]
theorem xallok_all {l : List Xp} (h : xallok l = true) : ∀ x ∈ l, x.ok = true := by simpa [xallok] using h
theorem xencs_nil : xencs [] = [] := rfl
theorem xencs_cons (x : Xp) (l : List Xp) : xencs (x :: l) = xenc x ++ xencs l := by simp [xencs]
theorem xencs_snoc (l : List Xp) (x : Xp) : xencs (l ++ [x]) = xencs l ++ xenc x := by simp [xencs]
theorem xencs_append (l m : List Xp) : xencs (l ++ m) = xencs l ++ xencs m := by simp [xencs]
theorem xallok_snoc (l : List Xp) (x : Xp) : xallok (l ++ [x]) = (xallok l && x.ok) := by simp [xallok]

/-- The numbers that seven bytes are. -/
def hLa (b : List UInt8) : Nat := lev (b.take 1)
def hN (b : List UInt8) : Nat := lev ((b.drop 1).take 1)
def hK (b : List UInt8) : Nat := lev ((b.drop 2).take 1)
def hG (b : List UInt8) : Nat := lev ((b.drop 3).take 4)
theorem hlev_max (l : List UInt8) (k : Nat) : lev (l.take k) < 256 ^ k :=
  Nat.lt_of_lt_of_le (lev_lt _) (Nat.pow_le_pow_right (by decide) (by rw [List.length_take]; omega))
theorem hLa_lt (b : List UInt8) : hLa b < 256 := hlev_max b 1
theorem hN_lt (b : List UInt8) : hN b < 256 := hlev_max _ 1
theorem hK_lt (b : List UInt8) : hK b < 256 := hlev_max _ 1
theorem hG_lt (b : List UInt8) : hG b < 4294967296 := hlev_max _ 4
/-- How many bytes of data a head asks for; the extent that bytes begin with. -/
def hM (b : List UInt8) : Nat := if hK b = 2 then 32 * hN b else 0
def hX (b : List UInt8) : Xp := ⟨hLa b, hN b, hK b, hG b, (b.drop 7).take (hM b)⟩
def rdX (b : List UInt8) : Option (Xp × List UInt8) := if 7 + hM b ≤ b.length ∧ 7 ≤ b.length then some (hX b, b.drop (7 + hM b)) else none
theorem hleb_take (l : List UInt8) (k : Nat) (h : k ≤ l.length) : leb k (lev (l.take k)) = l.take k := by
  have := leb_lev (l.take k)
  rwa [List.length_take, Nat.min_eq_left h] at this
theorem xhead_hX {b : List UInt8} (h : 7 ≤ b.length) : xhead (hX b) = b.take 7 := by
  unfold xhead hX
  simp only [Int.toNat_natCast]
  unfold hLa hN hK hG
  rw [hleb_take b 1 (by omega), hleb_take _ 1 (by rw [List.length_drop]; omega), hleb_take _ 1 (by rw [List.length_drop]; omega), hleb_take _ 4 (by rw [List.length_drop]; omega)]
  have e1 : (b.drop 2).take 1 ++ (b.drop 3).take 4 = (b.drop 2).take 5 := by
    rw [show 5 = 1 + 4 from rfl, List.take_add, List.drop_drop]
  have e2 : (b.drop 1).take 1 ++ (b.drop 2).take 5 = (b.drop 1).take 6 := by
    rw [show 6 = 1 + 5 from rfl, List.take_add, List.drop_drop]
  rw [e1, e2, show 7 = 1 + 6 from rfl, List.take_add]
theorem rdX_enc {b t : List UInt8} {x : Xp} (h : rdX b = some (x, t)) : b = xenc x ++ t := by
  unfold rdX at h
  split at h
  · rename_i hc
    cases h
    rw [xenc, xhead_hX hc.2]
    show b = b.take 7 ++ (b.drop 7).take (hM b) ++ b.drop (7 + hM b)
    rw [List.append_assoc, ← List.drop_drop, List.take_append_drop, List.take_append_drop]
  · cases h
theorem lev_first {x a : List UInt8} {k n : Nat} (hn : n < 256 ^ k) : lev (((leb k n ++ x) ++ a).take k) = n := by
  rw [List.append_assoc, List.take_append_of_le_length (by rw [leb_length]; omega), List.take_of_length_le (by rw [leb_length]; omega), lev_leb _ _ hn]
theorem drop_leb (k n : Nat) (t : List UInt8) : (leb k n ++ t).drop k = t := by
  rw [List.drop_append_of_le_length (by rw [leb_length]; omega), List.drop_eq_nil_of_le (by rw [leb_length]; omega), List.nil_append]
theorem enc_rdX {x : Xp} (h : x.ok = true) (t : List UInt8) : rdX (xenc x ++ t) = some (x, t) := by
  obtain ⟨a1, a2, a3, a4, a5, a6, a7, a8, a9⟩ := Xp.all h
  have d1 : (xenc x ++ t).drop 1 = leb 1 x.n.toNat ++ ((leb 1 x.k.toNat ++ leb 4 x.g.toNat) ++ (x.l ++ t)) := by
    simp only [xenc, xhead, List.append_assoc]
    exact drop_leb 1 _ _
  have d2 : (xenc x ++ t).drop 2 = leb 1 x.k.toNat ++ (leb 4 x.g.toNat ++ (x.l ++ t)) := by
    rw [show 2 = 1 + 1 from rfl, ← List.drop_drop, d1]
    simp only [List.append_assoc]
    exact drop_leb 1 _ _
  have d3 : (xenc x ++ t).drop 3 = leb 4 x.g.toNat ++ (x.l ++ t) := by
    rw [show 3 = 2 + 1 from rfl, ← List.drop_drop, d2]
    exact drop_leb 1 _ _
  have d7 : (xenc x ++ t).drop 7 = x.l ++ t := by
    rw [show 7 = 3 + 4 from rfl, ← List.drop_drop, d3]
    exact drop_leb 4 _ _
  have n1 : hLa (xenc x ++ t) = x.la.toNat := by
    unfold hLa xenc xhead
    rw [List.append_assoc, ]
    exact lev_first (k := 1) (by omega)
  have hl4 : ∀ (k n : Nat) (y : List UInt8), n < 256 ^ k → lev ((leb k n ++ y).take k) = n := fun k n y hn => by
    have := lev_first (x := y) (a := []) (k := k) hn
    rwa [List.append_nil] at this
  have n2 : hN (xenc x ++ t) = x.n.toNat := by
    unfold hN
    rw [d1]
    exact hl4 1 _ _ (by omega)
  have n3 : hK (xenc x ++ t) = x.k.toNat := by
    unfold hK
    rw [d2]
    exact hl4 1 _ _ (by omega)
  have n4 : hG (xenc x ++ t) = x.g.toNat := by
    unfold hG
    rw [d3]
    exact hl4 4 _ _ (by omega)
  have n5 : hM (xenc x ++ t) = x.l.length := by
    unfold hM
    rw [n2, n3]
    by_cases hk : x.k = 2
    · have := a8 hk
      rw [if_pos (by omega)]
      omega
    · rw [if_neg (by omega), a9 hk]
      rfl
  have hlen : (xenc x ++ t).length = 7 + x.l.length + t.length := by rw [List.length_append, xenc_length]
  unfold rdX
  rw [if_pos (by rw [n5, hlen]; omega), n5]
  congr 2
  · unfold hX
    rw [n1, n2, n3, n4, n5, d7, List.take_append_of_le_length (Nat.le_refl _), List.take_length]
    cases x
    dsimp only at a1 a2 a4 a6 ⊢
    simp only [Xp.mk.injEq, and_true]
    omega
  · rw [← List.drop_drop, d7, List.drop_append_of_le_length (Nat.le_refl _), List.drop_length, List.nil_append]

/-- So many extents, one behind the other. -/
def parX : Nat → List UInt8 → Option (List Xp × List UInt8)
  | 0, b => some ([], b)
  | n + 1, b => match rdX b with
    | none => none
    | some (x, t) => (parX n t).map fun y => (x :: y.1, y.2)
theorem parX_enc : ∀ (n : Nat) (b : List UInt8) (l : List Xp) (t : List UInt8), parX n b = some (l, t) → b = xencs l ++ t ∧ l.length = n
  | 0, b, l, t, h => by
    cases h
    exact ⟨by simp [xencs], rfl⟩
  | n + 1, b, l, t, h => by
    rw [parX] at h
    split at h
    · cases h
    · rename_i x u hx
      rw [Option.map_eq_some_iff] at h
      obtain ⟨⟨m, v⟩, h1, h2⟩ := h
      cases h2
      obtain ⟨h3, h4⟩ := parX_enc n u m v h1
      refine ⟨?_, by simp [h4]⟩
      rw [xencs_cons, List.append_assoc, ← h3]
      exact rdX_enc hx
theorem enc_parX : ∀ (l : List Xp) (t : List UInt8), (∀ x ∈ l, x.ok = true) → parX l.length (xencs l ++ t) = some (l, t)
  | [], t, _ => rfl
  | x :: l, t, h => by
    rw [List.length_cons, parX, xencs_cons, List.append_assoc, enc_rdX (h x (List.mem_cons_self ..))]
    simp only
    rw [enc_parX l t (fun y hy => h y (List.mem_cons_of_mem _ hy))]
    rfl
/-- One more of them. -/
theorem parX_snoc : ∀ (n : Nat) (b : List UInt8) (l : List Xp) (t : List UInt8), parX n b = some (l, t) → parX (n + 1) b = (rdX t).map fun y => (l ++ [y.1], y.2)
  | 0, b, l, t, h => by
    cases h
    rw [parX]
    cases rdX b with
    | none => rfl
    | some y => rfl
  | n + 1, b, l, t, h => by
    rw [parX] at h
    split at h
    · cases h
    · rename_i x u hx
      rw [Option.map_eq_some_iff] at h
      obtain ⟨⟨m, v⟩, h1, h2⟩ := h
      cases h2
      rw [parX, hx]
      simp only
      rw [parX_snoc n u m v h1]
      cases rdX v with
      | none => rfl
      | some y => rfl
theorem parX_stop : ∀ (n : Nat) (b : List UInt8), parX n b = none → parX (n + 1) b = none
  | 0, b, h => by cases h
  | n + 1, b, h => by
    rw [parX] at h ⊢
    cases hx : rdX b with
    | none => rfl
    | some y =>
      obtain ⟨x, u⟩ := y
      rw [hx] at h
      simp only at h ⊢
      rw [Option.map_eq_none_iff] at h
      rw [parX_stop n u h]
      rfl
theorem parX_none {n m : Nat} (hnm : n ≤ m) {b : List UInt8} (h : parX n b = none) : parX m b = none := by
  induction hnm with
  | refl => exact h
  | step _ ih => exact parX_stop _ _ ih

/-- The extents that bytes are. -/
def xrd (b : List UInt8) : Option (List Xp) :=
  match b with
  | [] => none
  | c :: t => match parX c.toNat t with
    | none => none
    | some (l, r) => if r = [] ∧ c.toNat ≤ 64 ∧ xallok l = true then some l else none
theorem xwr_some {l : List Xp} {b : List UInt8} (h : xwr l = some b) : l.length ≤ 64 ∧ xallok l = true ∧ b = UInt8.ofNat l.length :: xencs l := by
  unfold xwr at h
  split at h
  · rename_i hc
    cases h
    exact ⟨hc.1, hc.2, rfl⟩
  · cases h
theorem u8_len {n : Nat} (h : n ≤ 64) : (UInt8.ofNat n).toNat = n := by
  rw [UInt8.toNat_ofNat']
  omega
theorem xrd_wr {l : List Xp} {b : List UInt8} (h : xwr l = some b) : xrd b = some l := by
  obtain ⟨h1, h2, rfl⟩ := xwr_some h
  have := enc_parX l [] (xallok_all h2)
  rw [List.append_nil] at this
  rw [xrd, u8_len h1, this]
  simp only
  rw [if_pos ⟨trivial, h1, h2⟩]
theorem xwr_rd {l : List Xp} {b : List UInt8} (h : xrd b = some l) : xwr l = some b := by
  unfold xrd at h
  split at h
  · cases h
  · rename_i c t
    split at h
    · cases h
    · rename_i m r hp
      split at h
      · rename_i hc
        cases h
        obtain ⟨rfl, h1, h2⟩ := hc
        obtain ⟨h3, h4⟩ := parX_enc _ _ _ _ hp
        rw [List.append_nil] at h3
        rw [xwr, if_pos ⟨by omega, h2⟩, h4, ← h3, UInt8.ofNat_toNat]
      · cases h
theorem xwr_inj {l m : List Xp} {b : List UInt8} (h1 : xwr l = some b) (h2 : xwr m = some b) : l = m := by
  have e := (xrd_wr h1).symm.trans (xrd_wr h2)
  exact Option.some.inj e
/-- What is cut off is none. -/
theorem xrd_cut {l : List Xp} {b : List UInt8} (h : xwr l = some b) {m : Nat} (hm : m < b.length) : xrd (b.take m) = none := by
  cases hx : xrd (b.take m) with
  | none => rfl
  | some l2 =>
    exfalso
    have h2 := xwr_rd hx
    obtain ⟨a1, a2, a3⟩ := xwr_some h
    obtain ⟨b1, b2, b3⟩ := xwr_some h2
    rw [a3] at b3 hm
    cases m with
    | zero => simp at b3
    | succ m =>
      rw [List.take_succ_cons] at b3
      simp only [List.cons.injEq] at b3
      have e1 := congrArg UInt8.toNat b3.1
      rw [u8_len a1, u8_len b1] at e1
      have e3 : xencs l = xencs l2 ++ (xencs l).drop m := by rw [← b3.2, List.take_append_drop]
      have p1 := enc_parX l2 ((xencs l).drop m) (xallok_all b2)
      have p2 := enc_parX l [] (xallok_all a2)
      rw [List.append_nil] at p2
      rw [← e3, ← e1, p2] at p1
      simp only [Option.some.injEq, Prod.mk.injEq] at p1
      have := congrArg List.length p1.2
      rw [List.length_drop] at this
      simp only [List.length_cons, List.length_nil] at hm this
      omega
theorem xencs_length : ∀ (l : List Xp), (xencs l).length = (l.map fun x => 7 + x.l.length).sum
  | [] => rfl
  | x :: l => by rw [xencs_cons, List.length_append, xenc_length, xencs_length l]; simp
end Go.Wag
