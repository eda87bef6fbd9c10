/-
  Plain facts on changes: no program is named here.
-/
import Derived.Test.YtbhohjbgbachhaaExtRd
import Derived.Test.YtbhohjbgbachhaaExtMath
namespace Go.Wag
open Go.RowKit
set_option linter.unusedVariables false
set_option maxRecDepth 20000

/-- A change as data: Kind, Lba, N, Id, Data, List. -/
structure Ch where
  k : Int
  la : Int
  n : Int
  i : Int
  d : List UInt8
  l : List Xp
/-- Whether extents stand one behind the other from a place on. -/
def clist : Int → List Xp → Bool
  | _, [] => true
  | a, x :: t => x.ok && (decide (a ≤ x.la) && clist (x.la + x.n) t)
/-- Whether a change may be: m: how many bytes of data. -/
def cchk (k la n i m : Int) (l : List Xp) : Bool := decide (
  ((k = 1 ∨ k = 2 ∨ k = 3) ∧ 0 ≤ la ∧ 1 ≤ n ∧ la + n ≤ 64 ∧ i = 0 ∧ l.length = 0 ∧ (k = 1 → m = 32 * n) ∧ (k ≠ 1 → m = 0)) ∨
  ((k = 4 ∨ k = 5) ∧ la = 0 ∧ n = 0 ∧ 1 ≤ i ∧ i ≤ 2147483647 ∧ m = 0 ∧ l.length = 0) ∨
  (k = 6 ∧ la = 0 ∧ n = 0 ∧ i = 0 ∧ 1 ≤ m ∧ m ≤ 1000 ∧ l.length = 0) ∨
  (k = 7 ∧ la = 0 ∧ n = 0 ∧ i = 0 ∧ m = 0 ∧ l.length = 0) ∨
  (k = 8 ∧ la = 0 ∧ n = 0 ∧ 1 ≤ i ∧ i ≤ 2147483647 ∧ m = 0 ∧ clist 0 l = true))
def Ch.ok (c : Ch) : Bool := cchk c.k c.la c.n c.i c.d.length c.l
theorem cchk_all {k la n i m : Int} {l : List Xp} (h : cchk k la n i m l = true) :
    1 ≤ k ∧ k ≤ 8 ∧ 0 ≤ la ∧ la ≤ 64 ∧ 0 ≤ n ∧ n ≤ 64 ∧ 0 ≤ i ∧ i ≤ 2147483647 ∧ m ≤ 2048 ∧ (k = 8 → clist 0 l = true) ∧ (k ≠ 8 → l = []) := by
  simp only [cchk, decide_eq_true_eq] at h
  rcases h with h | h | h | h | h
  · obtain ⟨h1, h2, h3, h4, h5, h6, h7, h8⟩ := h
    have hl : l = [] := List.length_eq_zero_iff.1 h6
    by_cases hk : k = 1
    · have := h7 hk
      exact ⟨by omega, by omega, by omega, by omega, by omega, by omega, by omega, by omega, by omega, by omega, fun _ => hl⟩
    · have := h8 hk
      exact ⟨by omega, by omega, by omega, by omega, by omega, by omega, by omega, by omega, by omega, by omega, fun _ => hl⟩
  · refine ⟨by omega, by omega, by omega, by omega, by omega, by omega, by omega, by omega, by omega, by omega, fun _ => List.length_eq_zero_iff.1 h.2.2.2.2.2.2⟩
  · refine ⟨by omega, by omega, by omega, by omega, by omega, by omega, by omega, by omega, by omega, by omega, fun _ => List.length_eq_zero_iff.1 h.2.2.2.2.2.2⟩
  · refine ⟨by omega, by omega, by omega, by omega, by omega, by omega, by omega, by omega, by omega, by omega, fun _ => List.length_eq_zero_iff.1 h.2.2.2.2.2⟩
  · refine ⟨by omega, by omega, by omega, by omega, by omega, by omega, by omega, by omega, by omega, fun _ => h.2.2.2.2.2.2, by omega⟩
theorem Ch.all {c : Ch} (h : c.ok = true) : 1 ≤ c.k ∧ c.k ≤ 8 ∧ 0 ≤ c.la ∧ c.la ≤ 64 ∧ 0 ≤ c.n ∧ c.n ≤ 64 ∧ 0 ≤ c.i ∧ c.i ≤ 2147483647 ∧ c.d.length ≤ 2048 ∧ (c.k = 8 → clist 0 c.l = true) ∧ (c.k ≠ 8 → c.l = []) := by
  have := cchk_all h
  exact ⟨this.1, this.2.1, this.2.2.1, this.2.2.2.1, this.2.2.2.2.1, this.2.2.2.2.2.1, this.2.2.2.2.2.2.1, this.2.2.2.2.2.2.2.1, by omega, this.2.2.2.2.2.2.2.2.2.1, this.2.2.2.2.2.2.2.2.2.2⟩

/-- Extents one behind the other: none may not be, and they fit. -/
theorem clist_all : ∀ (l : List Xp) (a : Int), clist a l = true → a ≤ 64 → xallok l = true ∧ a + l.length ≤ 64 ∧ ((xencs l).length : Int) ≤ 7 * l.length + 32 * (64 - a)
  | [], a, _, ha => by
    refine ⟨rfl, by simpa using ha, ?_⟩
    simp only [xencs_nil, List.length_nil]
    omega
  | x :: t, a, h, ha => by
    simp only [clist, Bool.and_eq_true, decide_eq_true_eq] at h
    obtain ⟨h1, h2, h3⟩ := h
    obtain ⟨a1, a2, a3, a4, a5, a6, a7, a8, a9⟩ := Xp.all h1
    obtain ⟨b1, b2, b3⟩ := clist_all t (x.la + x.n) h3 a3
    have hd : (x.l.length : Int) ≤ 32 * x.n := by
      by_cases hk : x.k = 2
      · have := a8 hk
        omega
      · rw [a9 hk, List.length_nil]
        omega
    refine ⟨by simp only [xallok, List.all_cons, Bool.and_eq_true]; exact ⟨h1, b1⟩, by rw [List.length_cons]; omega, ?_⟩
    rw [xencs_cons, List.length_append, xenc_length, List.length_cons]
    omega
theorem clist_wr {l : List Xp} (h : clist 0 l = true) : xwr l = some (UInt8.ofNat l.length :: xencs l) := by
  obtain ⟨h1, h2, h3⟩ := clist_all l 0 h (by omega)
  rw [xwr, if_pos ⟨by omega, h1⟩]

/-- Its bytes. -/
def chead (k la n i m : Nat) : List UInt8 := leb 1 k ++ (leb 1 la ++ (leb 1 n ++ (leb 4 i ++ leb 2 m)))
def ctail (c : Ch) : List UInt8 := if c.k = 8 then UInt8.ofNat c.l.length :: xencs c.l else []
def cenc (c : Ch) : List UInt8 := chead c.k.toNat c.la.toNat c.n.toNat c.i.toNat c.d.length ++ (c.d ++ ctail c)
def cwr (c : Ch) : Option (List UInt8) := if c.ok then some (cenc c) else none
theorem chead_length (k la n i m : Nat) : (chead k la n i m).length = 9 := by simp [chead, leb_length]
theorem cwr_some {c : Ch} {b : List UInt8} (h : cwr c = some b) : c.ok = true ∧ b = cenc c := by
  unfold cwr at h
  split at h
  · rename_i hc
    cases h
    exact ⟨hc, rfl⟩
  · cases h
theorem cwr_yes {c : Ch} (h : c.ok = true) : cwr c = some (cenc c) := by rw [cwr, if_pos h]
theorem cwr_no {c : Ch} (h : ¬ c.ok = true) : cwr c = none := by rw [cwr, if_neg h]
theorem ctail_length {c : Ch} (h : c.ok = true) : (ctail c).length ≤ 2497 := by
  obtain ⟨_, _, _, _, _, _, _, _, _, h8, _⟩ := Ch.all h
  unfold ctail
  split
  · rename_i hk
    obtain ⟨h1, h2, h3⟩ := clist_all c.l 0 (h8 hk) (by omega)
    rw [List.length_cons]
    omega
  · simp
theorem cenc_length (c : Ch) : (cenc c).length = 9 + c.d.length + (ctail c).length := by
  rw [cenc, List.length_append, List.length_append, chead_length]
  omega
theorem cdata_k8 {c : Ch} (h : c.ok = true) (hk : c.k = 8) : c.d = [] := by
  have h2 := h
  simp only [Ch.ok, cchk, decide_eq_true_eq] at h2
  have : c.d.length = 0 := by omega
  exact List.length_eq_zero_iff.1 this
theorem cwr_max {c : Ch} {b : List UInt8} (h : cwr c = some b) : b.length ≤ 4096 ∧ 9 ≤ b.length := by
  obtain ⟨h1, rfl⟩ := cwr_some h
  have h2 := ctail_length h1
  have h3 := (Ch.all h1).2.2.2.2.2.2.2.2.1
  have h4 := cenc_length c
  by_cases hk : c.k = 8
  · rw [cdata_k8 h1 hk] at h4
    simp only [List.length_nil] at h4
    omega
  · have : (ctail c).length = 0 := by rw [ctail, if_neg hk, List.length_nil]
    omega

/-- The numbers that nine bytes are. -/
def cnK (b : List UInt8) : Nat := lev (b.take 1)
def cnL (b : List UInt8) : Nat := lev ((b.drop 1).take 1)
def cnN (b : List UInt8) : Nat := lev ((b.drop 2).take 1)
def cnI (b : List UInt8) : Nat := lev ((b.drop 3).take 4)
def cnM (b : List UInt8) : Nat := lev ((b.drop 7).take 2)
theorem cnK_lt (b : List UInt8) : cnK b < 256 := hlev_max b 1
theorem cnL_lt (b : List UInt8) : cnL b < 256 := hlev_max _ 1
theorem cnN_lt (b : List UInt8) : cnN b < 256 := hlev_max _ 1
theorem cnI_lt (b : List UInt8) : cnI b < 4294967296 := hlev_max _ 4
theorem cnM_lt (b : List UInt8) : cnM b < 65536 := hlev_max _ 2
/-- The extents behind its data; the change that bytes may be; the one that they are. -/
def cls (b : List UInt8) : Option (List Xp) := if cnK b = 8 then xrd (b.drop (9 + cnM b)) else if b.length ≤ 9 + cnM b then some [] else none
def cX (b : List UInt8) (l : List Xp) : Ch := ⟨cnK b, cnL b, cnN b, cnI b, (b.drop 9).take (cnM b), l⟩
def crd (b : List UInt8) : Option Ch := if 9 ≤ b.length ∧ 9 + cnM b ≤ b.length then (match cls b with | none => none | some l => if (cX b l).ok then some (cX b l) else none) else none

theorem chead_cn {b : List UInt8} (h : 9 ≤ b.length) : chead (cnK b) (cnL b) (cnN b) (cnI b) (cnM b) = b.take 9 := by
  unfold chead cnK cnL cnN cnI cnM
  rw [hleb_take b 1 (by omega), hleb_take _ 1 (by rw [List.length_drop]; omega), hleb_take _ 1 (by rw [List.length_drop]; omega), hleb_take _ 4 (by rw [List.length_drop]; omega), hleb_take _ 2 (by rw [List.length_drop]; omega)]
  have e0 : (b.drop 3).take 4 ++ (b.drop 7).take 2 = (b.drop 3).take 6 := by
    rw [show 6 = 4 + 2 from rfl, List.take_add, List.drop_drop]
  have e1 : (b.drop 2).take 1 ++ (b.drop 3).take 6 = (b.drop 2).take 7 := by
    rw [show 7 = 1 + 6 from rfl, List.take_add, List.drop_drop]
  have e2 : (b.drop 1).take 1 ++ (b.drop 2).take 7 = (b.drop 1).take 8 := by
    rw [show 8 = 1 + 7 from rfl, List.take_add, List.drop_drop]
  rw [e0, e1, e2, show 9 = 1 + 8 from rfl, List.take_add]
theorem lev_one (k n : Nat) (y : List UInt8) (hn : n < 256 ^ k) : lev ((leb k n ++ y).take k) = n := by
  have := lev_first (x := y) (a := []) (k := k) hn
  rwa [List.append_nil] at this
/-- What a head says. -/
theorem cn_head {k la n i m : Nat} (h1 : k < 256) (h2 : la < 256) (h3 : n < 256) (h4 : i < 4294967296) (h5 : m < 65536) (t : List UInt8) :
    cnK (chead k la n i m ++ t) = k ∧ cnL (chead k la n i m ++ t) = la ∧ cnN (chead k la n i m ++ t) = n ∧ cnI (chead k la n i m ++ t) = i ∧ cnM (chead k la n i m ++ t) = m ∧ (chead k la n i m ++ t).drop 9 = t := by
  have d0 : chead k la n i m ++ t = leb 1 k ++ (leb 1 la ++ (leb 1 n ++ (leb 4 i ++ (leb 2 m ++ t)))) := by simp only [chead, List.append_assoc]
  rw [d0]
  have d1 : (leb 1 k ++ (leb 1 la ++ (leb 1 n ++ (leb 4 i ++ (leb 2 m ++ t))))).drop 1 = leb 1 la ++ (leb 1 n ++ (leb 4 i ++ (leb 2 m ++ t))) := drop_leb 1 _ _
  have d2 : (leb 1 k ++ (leb 1 la ++ (leb 1 n ++ (leb 4 i ++ (leb 2 m ++ t))))).drop 2 = leb 1 n ++ (leb 4 i ++ (leb 2 m ++ t)) := by
    rw [show 2 = 1 + 1 from rfl, ← List.drop_drop, d1]
    exact drop_leb 1 _ _
  have d3 : (leb 1 k ++ (leb 1 la ++ (leb 1 n ++ (leb 4 i ++ (leb 2 m ++ t))))).drop 3 = leb 4 i ++ (leb 2 m ++ t) := by
    rw [show 3 = 2 + 1 from rfl, ← List.drop_drop, d2]
    exact drop_leb 1 _ _
  have d7 : (leb 1 k ++ (leb 1 la ++ (leb 1 n ++ (leb 4 i ++ (leb 2 m ++ t))))).drop 7 = leb 2 m ++ t := by
    rw [show 7 = 3 + 4 from rfl, ← List.drop_drop, d3]
    exact drop_leb 4 _ _
  have d9 : (leb 1 k ++ (leb 1 la ++ (leb 1 n ++ (leb 4 i ++ (leb 2 m ++ t))))).drop 9 = t := by
    rw [show 9 = 7 + 2 from rfl, ← List.drop_drop, d7]
    exact drop_leb 2 _ _
  unfold cnK cnL cnN cnI cnM
  rw [d1, d2, d3, d7, d9]
  exact ⟨lev_one 1 _ _ (by omega), lev_one 1 _ _ (by omega), lev_one 1 _ _ (by omega), lev_one 4 _ _ (by omega), lev_one 2 _ _ (by omega), rfl⟩
theorem crd_enc {c : Ch} (h : c.ok = true) : crd (cenc c) = some c := by
  obtain ⟨a1, a2, a3, a4, a5, a6, a7, a8, a9, a10, a11⟩ := Ch.all h
  obtain ⟨n1, n2, n3, n4, n5, n6⟩ := cn_head (k := c.k.toNat) (la := c.la.toNat) (n := c.n.toNat) (i := c.i.toNat) (m := c.d.length) (by omega) (by omega) (by omega) (by omega) (by omega) (c.d ++ ctail c)
  have hlen := cenc_length c
  have e9 : (cenc c).drop (9 + c.d.length) = ctail c := by
    rw [← List.drop_drop, cenc, n6, List.drop_append_of_le_length (Nat.le_refl _), List.drop_length, List.nil_append]
  have hX : cX (cenc c) c.l = c := by
    unfold cX
    unfold cenc
    rw [n1, n2, n3, n4, n5, n6, List.take_append_of_le_length (Nat.le_refl _), List.take_length]
    cases c
    dsimp only at a1 a3 a5 a7 ⊢
    simp only [Ch.mk.injEq, and_true]
    omega
  have hC : cls (cenc c) = some c.l := by
    unfold cls
    have n1' : cnK (cenc c) = c.k.toNat := n1
    have n5' : cnM (cenc c) = c.d.length := n5
    rw [n1', n5', e9]
    by_cases hk : c.k = 8
    · rw [if_pos (by omega), ctail, if_pos hk]
      exact xrd_wr (clist_wr (a10 hk))
    · have ht : (ctail c).length = 0 := by rw [ctail, if_neg hk, List.length_nil]
      rw [if_neg (by omega), if_pos (by omega), a11 hk]
  have n5' : cnM (cenc c) = c.d.length := n5
  unfold crd
  rw [if_pos (by omega), hC]
  simp only
  rw [hX, if_pos h]
theorem crd_some {b : List UInt8} {c : Ch} (h : crd b = some c) : 9 ≤ b.length ∧ 9 + cnM b ≤ b.length ∧ ∃ l, cls b = some l ∧ c = cX b l ∧ c.ok = true := by
  unfold crd at h
  split at h
  · rename_i hb
    split at h
    · cases h
    · rename_i l hl
      split at h
      · rename_i hc
        cases h
        exact ⟨hb.1, hb.2, l, hl, rfl, hc⟩
      · cases h
  · cases h
theorem cenc_cX {b : List UInt8} {l : List Xp} (h9 : 9 ≤ b.length) (hm : 9 + cnM b ≤ b.length) : cenc (cX b l) = b.take (9 + cnM b) ++ ctail (cX b l) := by
  have e1 : ((b.drop 9).take (cnM b)).length = cnM b := by rw [List.length_take, List.length_drop]; omega
  unfold cenc
  show chead ((cnK b : Int)).toNat ((cnL b : Int)).toNat ((cnN b : Int)).toNat ((cnI b : Int)).toNat ((b.drop 9).take (cnM b)).length ++ ((b.drop 9).take (cnM b) ++ ctail (cX b l)) = _
  rw [e1, Int.toNat_natCast, Int.toNat_natCast, Int.toNat_natCast, Int.toNat_natCast, chead_cn h9, ← List.append_assoc, List.take_add]
theorem enc_crd {b : List UInt8} {c : Ch} (h : crd b = some c) : cenc c = b := by
  obtain ⟨h9, hm, l, hl, rfl, hok⟩ := crd_some h
  rw [cenc_cX h9 hm]
  have ht : ctail (cX b l) = b.drop (9 + cnM b) := by
    unfold ctail
    unfold cls at hl
    by_cases hk : cnK b = 8
    · rw [if_pos hk] at hl
      have h8 : (cX b l).k = 8 := by show ((cnK b : Int)) = 8; omega
      rw [if_pos h8]
      obtain ⟨_, _, h3⟩ := xwr_some (xwr_rd hl)
      exact h3.symm
    · rw [if_neg hk] at hl
      have h8 : ¬ (cX b l).k = 8 := by show ¬ ((cnK b : Int)) = 8; omega
      rw [if_neg h8]
      split at hl
      · rename_i hle
        exact (List.drop_eq_nil_of_le hle).symm
      · cases hl
  rw [ht, List.take_append_drop]
theorem crd_wr {c : Ch} {b : List UInt8} (h : cwr c = some b) : crd b = some c := by
  obtain ⟨h1, rfl⟩ := cwr_some h
  exact crd_enc h1
theorem crd_ok {c : Ch} {b : List UInt8} (h : crd b = some c) : c.ok = true := by
  obtain ⟨_, _, l, _, _, hok⟩ := crd_some h
  exact hok
theorem cwr_rd {c : Ch} {b : List UInt8} (h : crd b = some c) : cwr c = some b := by
  rw [cwr_yes (crd_ok h), enc_crd h]
theorem cwr_inj {c e : Ch} {b : List UInt8} (h1 : cwr c = some b) (h2 : cwr e = some b) : c = e :=
  Option.some.inj ((crd_wr h1).symm.trans (crd_wr h2))
/-- What is cut off is none. -/
theorem crd_cut {c : Ch} {b : List UInt8} (h : cwr c = some b) {m : Nat} (hm : m < b.length) : crd (b.take m) = none := by
  cases hx : crd (b.take m) with
  | none => rfl
  | some e =>
    exfalso
    obtain ⟨h9, h9m, l, hl, rfl, hok⟩ := crd_some hx
    have hb := crd_wr h
    obtain ⟨g9, g9m, l2, hl2, rfl, hok2⟩ := crd_some hb
    have hlen : (b.take m).length = m := by rw [List.length_take]; omega
    rw [hlen] at h9 h9m
    have t1 : ∀ (s k : Nat), s + k ≤ 9 → ((b.take m).drop s).take k = (b.drop s).take k := fun s k hs => by
      rw [List.drop_take, List.take_take, Nat.min_eq_left (by omega)]
    have eK : cnK (b.take m) = cnK b := by
      unfold cnK
      rw [List.take_take, Nat.min_eq_left (by omega)]
    have eM : cnM (b.take m) = cnM b := by
      unfold cnM
      rw [t1 7 2 (by omega)]
    unfold cls at hl hl2
    rw [eK, eM] at hl
    rw [eM] at h9m
    by_cases hk : cnK b = 8
    · rw [if_pos hk] at hl hl2
      rw [List.drop_take] at hl
      have := xrd_cut (xwr_rd hl2) (m := m - (9 + cnM b)) (by rw [List.length_drop]; omega)
      rw [this] at hl
      cases hl
    · rw [if_neg hk] at hl2
      split at hl2
      · omega
      · cases hl2
theorem crd_more {c : Ch} {b : List UInt8} (h : cwr c = some b) (z : UInt8) : crd (b ++ [z]) = none := by
  cases hx : crd (b ++ [z]) with
  | none => rfl
  | some e =>
    exfalso
    have := crd_cut (cwr_rd hx) (m := b.length) (by rw [List.length_append, List.length_singleton]; omega)
    rw [List.take_append_of_le_length (Nat.le_refl _), List.take_length, crd_wr h] at this
    cases this
theorem crd_short {b : List UInt8} (h : b.length < 9) : crd b = none := by rw [crd, if_neg (by omega)]
theorem crd_few {b : List UInt8} (h : b.length < 9 + cnM b) : crd b = none := by rw [crd, if_neg (by omega)]
theorem crd_nols {b : List UInt8} (h : cls b = none) : crd b = none := by
  unfold crd
  split
  · rw [h]
  · rfl
theorem crd_bad {b : List UInt8} {l : List Xp} (h : cls b = some l) (hc : ¬ (cX b l).ok = true) : crd b = none := by
  unfold crd
  split
  · rw [h]
    simp only
    rw [if_neg hc]
  · rfl
theorem crd_yes {b : List UInt8} {l : List Xp} (h9 : 9 ≤ b.length) (hm : 9 + cnM b ≤ b.length) (h : cls b = some l) (hc : (cX b l).ok = true) : crd b = some (cX b l) := by
  unfold crd
  rw [if_pos ⟨h9, hm⟩, h]
  simp only
  rw [if_pos hc]
/-- As the document reads: the one that may be, if its bytes are just these. -/
theorem crd_doc {b : List UInt8} {l : List Xp} (h9 : 9 ≤ b.length) (hm : 9 + cnM b ≤ b.length) (hl : if cnK b = 8 then xrd (b.drop (9 + cnM b)) = some l else l = []) :
    crd b = if cwr (cX b l) = some b then some (cX b l) else none := by
  by_cases hw : cwr (cX b l) = some b
  · rw [if_pos hw]
    exact crd_wr hw
  · rw [if_neg hw]
    cases hx : crd b with
    | none => rfl
    | some e =>
      exfalso
      obtain ⟨_, _, l2, hl2, rfl, hok⟩ := crd_some hx
      have e2 : l2 = l := by
        unfold cls at hl2
        by_cases hk : cnK b = 8
        · rw [if_pos hk] at hl hl2
          exact Option.some.inj (hl2.symm.trans hl)
        · rw [if_neg hk] at hl hl2
          split at hl2
          · cases hl2
            exact hl.symm
          · cases hl2
      subst e2
      exact hw (cwr_rd hx)
theorem crd_nox {b : List UInt8} (hk : cnK b = 8) (h : xrd (b.drop (9 + cnM b)) = none) : crd b = none := by
  refine crd_nols ?_
  rw [cls, if_pos hk, h]
theorem cunpack {b : List UInt8} (h : 9 ≤ b.length) : unpackF [98, 98, 98, 119, 104] (b.take 9) = some [UInt64.ofNat (cnK b), UInt64.ofNat (cnL b), UInt64.ofNat (cnN b), UInt64.ofNat (cnI b), UInt64.ofNat (cnM b)] := by
  have l1 : ltr ((98 : UInt8).toNat : Int) = 1 := by decide
  have l2 : ltr ((119 : UInt8).toNat : Int) = 4 := by decide
  have l3 : ltr ((104 : UInt8).toNat : Int) = 2 := by decide
  simp only [unpackF, l1, l2, l3, List.length_drop, List.length_take, List.drop_drop]
  rw [if_neg (by omega), if_neg (by omega), if_neg (by omega), if_neg (by omega), if_neg (by omega), if_pos (List.drop_eq_nil_of_le (by rw [List.length_take]; omega))]
  simp only [Option.map_some, Option.some.injEq, List.cons.injEq, and_true]
  unfold cnK cnL cnN cnI cnM
  simp only [List.drop_take, List.take_take]
  exact ⟨rfl, rfl, rfl, rfl, rfl⟩
theorem cunpack_short {b : List UInt8} (h : b.length < 9) : unpackF [98, 98, 98, 119, 104] b = none := by
  have l1 : ltr ((98 : UInt8).toNat : Int) = 1 := by decide
  have l2 : ltr ((119 : UInt8).toNat : Int) = 4 := by decide
  have l3 : ltr ((104 : UInt8).toNat : Int) = 2 := by decide
  simp only [unpackF, l1, l2, l3, List.length_drop, List.drop_drop]
  split
  · rfl
  split
  · rfl
  split
  · rfl
  split
  · rfl
  rw [if_pos (by omega)]
  rfl
theorem cpack {k la n i m : Nat} (h1 : k < 256) (h2 : la < 256) (h3 : n < 256) (h4 : i < 4294967296) (h5 : m < 65536) : packF [98, 98, 98, 119, 104] [UInt64.ofNat k, UInt64.ofNat la, UInt64.ofNat n, UInt64.ofNat i, UInt64.ofNat m] = some (chead k la n i m) := by
  have e1 : (UInt64.ofNat k).toNat = k := by rw [UInt64.toNat_ofNat']; omega
  have e2 : (UInt64.ofNat la).toNat = la := by rw [UInt64.toNat_ofNat']; omega
  have e3 : (UInt64.ofNat n).toNat = n := by rw [UInt64.toNat_ofNat']; omega
  have e4 : (UInt64.ofNat i).toNat = i := by rw [UInt64.toNat_ofNat']; omega
  have e5 : (UInt64.ofNat m).toNat = m := by rw [UInt64.toNat_ofNat']; omega
  have l1 : ltr ((98 : UInt8).toNat : Int) = 1 := by decide
  have l2 : ltr ((119 : UInt8).toNat : Int) = 4 := by decide
  have l3 : ltr ((104 : UInt8).toNat : Int) = 2 := by decide
  simp only [packF, l1, l2, l3, e1, e2, e3, e4, e5]
  rw [if_neg (by simp [fitsB]; omega), if_neg (by simp [fitsB]; omega), if_neg (by simp [fitsB]; omega), if_neg (by simp [fitsB]; omega), if_neg (by simp [fitsB]; omega)]
  simp [chead]
/-- With another kind it may not be, or has other bytes. -/
theorem cwr_kind {c : Ch} {k : Int} {x y : List UInt8} (hk : k ≠ c.k) (hx : cwr c = some x) (hy : cwr ⟨k, c.la, c.n, c.i, c.d, c.l⟩ = some y) : x ≠ y := fun e => by
  subst e
  have := congrArg Ch.k (cwr_inj hx hy)
  exact hk this.symm
theorem cok_kind {c : Ch} {k la n i : Int} {d : List UInt8} {l : List Xp} (h : ¬ (1 ≤ k ∧ k ≤ 8)) : ¬ (Ch.mk k la n i d l).ok = true := fun hc => h ⟨(Ch.all hc).1, (Ch.all hc).2.1⟩
/-- How many bytes: of each extent seven, and its data. -/
def xsum : List Xp → Nat
  | [] => 0
  | x :: t => 7 + x.l.length + xsum t
theorem xsum_len : ∀ (l : List Xp), (xencs l).length = xsum l
  | [] => rfl
  | x :: t => by rw [xencs_cons, List.length_append, xenc_length, xsum_len t]; rfl
theorem xsum_snoc : ∀ (l : List Xp) (x : Xp), xsum (l ++ [x]) = xsum l + 7 + x.l.length
  | [], x => by simp [xsum]
  | y :: t, x => by rw [List.cons_append, xsum, xsum_snoc t x, xsum]; omega
end Go.Wag
