/-
  Plain facts on records: no program is named here.
-/
import Derived.Test.YtjhpjhgofmlecaaDoorCrcMath
import Derived.Test.YtjhpjhgofmlecaaDoorLeMath2
namespace Go.Wag
open Go.RowKit
set_option linter.unusedVariables false

/-- A record as data: Kind, Seq, Body. -/
structure Rp where
  k : Int
  s : Int
  l : List UInt8

theorem Rp.ext_of {a b : Rp} (h1 : a.k = b.k) (h2 : a.s = b.s) (h3 : a.l = b.l) : a = b := by
  cases a; cases b; simp_all

/-- Whether a record may be: Kind, Seq, how many bytes. -/
def rchk (k s n : Int) : Bool := decide (1 ≤ k ∧ k ≤ 5 ∧ 0 ≤ s ∧ s ≤ 4611686018427387903 ∧ n ≤ 4096)
def rchkE (k s n : Int) : Int := if rchk k s n then 0 else 50
def Rp.ok (r : Rp) : Bool := rchk r.k r.s r.l.length
theorem rchk_all {k s n : Int} (h : rchk k s n = true) : 1 ≤ k ∧ k ≤ 5 ∧ 0 ≤ s ∧ s ≤ 4611686018427387903 ∧ n ≤ 4096 := by
  simpa only [rchk, decide_eq_true_eq] using h
theorem Rp.all {r : Rp} (h : r.ok = true) : 1 ≤ r.k ∧ r.k ≤ 5 ∧ 0 ≤ r.s ∧ r.s ≤ 4611686018427387903 ∧ r.l.length ≤ 4096 := by
  have := rchk_all h
  omega

/-- A head with its mark; a record's bytes; its bytes, if it may be. -/
def headM (m k n s : Nat) : List UInt8 := leb 4 m ++ (leb 2 k ++ (leb 2 n ++ leb 8 s))
def headF (k n s : Nat) : List UInt8 := headM 1196184151 k n s
def recB (r : Rp) : List UInt8 := sealF (headF r.k.toNat r.l.length r.s.toNat ++ r.l)
def wrF (r : Rp) : Option (List UInt8) := if r.ok then some (recB r) else none
theorem wrF_yes {r : Rp} (h : r.ok = true) : wrF r = some (recB r) := by simp [wrF, h]
theorem wrF_no {r : Rp} (h : r.ok = false) : wrF r = none := by simp [wrF, h]
theorem headM_length (m k n s : Nat) : (headM m k n s).length = 16 := by simp [headM, leb_length]
theorem headF_length (k n s : Nat) : (headF k n s).length = 16 := headM_length _ _ _ _
theorem recB_length (r : Rp) : (recB r).length = r.l.length + 20 := by
  rw [recB, sealF_length, List.length_append, headF_length]
  omega

/-- The numbers of a head that bytes begin with. -/
def rM (b : List UInt8) : Nat := lev (b.take 4)
def rK (b : List UInt8) : Nat := lev ((b.drop 4).take 2)
def rN (b : List UInt8) : Nat := lev ((b.drop 6).take 2)
def rS (b : List UInt8) : Nat := lev ((b.drop 8).take 8)
theorem lev_max (l : List UInt8) (k : Nat) : lev (l.take k) < 256 ^ k :=
  Nat.lt_of_lt_of_le (lev_lt _) (Nat.pow_le_pow_right (by decide) (by rw [List.length_take]; omega))
theorem rM_lt (b : List UInt8) : rM b < 4294967296 := lev_max b 4
theorem rK_lt (b : List UInt8) : rK b < 65536 := lev_max _ 2
theorem rN_lt (b : List UInt8) : rN b < 65536 := lev_max _ 2
theorem rS_lt (b : List UInt8) : rS b < 18446744073709551616 := lev_max _ 8

theorem leb_take (l : List UInt8) (k : Nat) (h : k ≤ l.length) : leb k (lev (l.take k)) = l.take k := by
  have := leb_lev (l.take k)
  rwa [List.length_take, Nat.min_eq_left h] at this

/-- A head is what its numbers say. -/
theorem head_of {b : List UInt8} (h : 16 ≤ b.length) : headM (rM b) (rK b) (rN b) (rS b) = b.take 16 := by
  unfold headM rM rK rN rS
  rw [leb_take b 4 (by omega), leb_take _ 2 (by rw [List.length_drop]; omega), leb_take _ 2 (by rw [List.length_drop]; omega), leb_take _ 8 (by rw [List.length_drop]; omega)]
  have e1 : (b.drop 6).take 2 ++ (b.drop 8).take 8 = (b.drop 6).take 10 := by
    rw [show 10 = 2 + 8 from rfl, List.take_add, List.drop_drop]
  have e2 : (b.drop 4).take 2 ++ (b.drop 6).take 10 = (b.drop 4).take 12 := by
    rw [show 12 = 2 + 10 from rfl, List.take_add, List.drop_drop]
  rw [e1, e2, show 16 = 4 + 12 from rfl, List.take_add]

theorem lev_at {x a : List UInt8} {k n : Nat} (hn : n < 256 ^ k) : lev (((leb k n ++ x) ++ a).take k) = n := by
  rw [List.append_assoc, List.take_append_of_le_length (by rw [leb_length]; omega), List.take_of_length_le (by rw [leb_length]; omega), lev_leb _ _ hn]
theorem rM_head (m k n s : Nat) (t : List UInt8) (hm : m < 4294967296) : rM (headM m k n s ++ t) = m := lev_at (k := 4) hm
theorem drop_head (m k n s : Nat) (t : List UInt8) : (headM m k n s ++ t).drop 4 = (leb 2 k ++ (leb 2 n ++ leb 8 s)) ++ t := by
  unfold headM
  rw [List.append_assoc, List.drop_append_of_le_length (by rw [leb_length]; omega), List.drop_eq_nil_of_le (by rw [leb_length]; omega), List.nil_append]
theorem rK_head (m k n s : Nat) (t : List UInt8) (h : k < 65536) : rK (headM m k n s ++ t) = k := by
  unfold rK
  rw [drop_head]
  exact lev_at (k := 2) h
theorem drop_head6 (m k n s : Nat) (t : List UInt8) : (headM m k n s ++ t).drop 6 = (leb 2 n ++ leb 8 s) ++ t := by
  rw [show 6 = 4 + 2 from rfl, ← List.drop_drop, drop_head, List.append_assoc, List.drop_append_of_le_length (by rw [leb_length]; omega), List.drop_eq_nil_of_le (by rw [leb_length]; omega), List.nil_append]
theorem rN_head (m k n s : Nat) (t : List UInt8) (h : n < 65536) : rN (headM m k n s ++ t) = n := by
  unfold rN
  rw [drop_head6]
  exact lev_at (k := 2) h
theorem rS_head (m k n s : Nat) (t : List UInt8) (h : s < 18446744073709551616) : rS (headM m k n s ++ t) = s := by
  unfold rS
  rw [show 8 = 6 + 2 from rfl, ← List.drop_drop, drop_head6, List.append_assoc, List.drop_append_of_le_length (by rw [leb_length]; omega), List.drop_eq_nil_of_le (by rw [leb_length]; omega), List.nil_append]
  rw [List.take_append_of_le_length (by rw [leb_length]; omega), List.take_of_length_le (by rw [leb_length]; omega), lev_leb _ _ h]

/-- The form 'whhq' of four numbers, and back. -/
theorem pack_head {k s : Int} {n : Nat} (h : rchk k s n = true) : packF [119, 104, 104, 113] [1196184151, UInt64.ofNat k.toNat, UInt64.ofNat n, UInt64.ofNat s.toNat] = some (headF k.toNat n s.toNat) := by
  have h := rchk_all h
  have e1 : (UInt64.ofNat k.toNat).toNat = k.toNat := by rw [UInt64.toNat_ofNat']; omega
  have e2 : (UInt64.ofNat n).toNat = n := by rw [UInt64.toNat_ofNat']; omega
  have e3 : (UInt64.ofNat s.toNat).toNat = s.toNat := by rw [UInt64.toNat_ofNat']; omega
  have e0 : (1196184151 : UInt64).toNat = 1196184151 := rfl
  have l1 : ltr ((119 : UInt8).toNat : Int) = 4 := by decide
  have l2 : ltr ((104 : UInt8).toNat : Int) = 2 := by decide
  have l3 : ltr ((113 : UInt8).toNat : Int) = 8 := by decide
  simp only [packF, l1, l2, l3, e0, e1, e2, e3]
  rw [if_neg (by simp [fitsB]), if_neg (by simp [fitsB]; omega), if_neg (by simp [fitsB]; omega), if_neg (by simp [fitsB]; omega)]
  simp [headF, headM]
theorem unpack_head {b : List UInt8} (h : 16 ≤ b.length) : unpackF [119, 104, 104, 113] (b.take 16) = some [UInt64.ofNat (rM b), UInt64.ofNat (rK b), UInt64.ofNat (rN b), UInt64.ofNat (rS b)] := by
  have l1 : ltr ((119 : UInt8).toNat : Int) = 4 := by decide
  have l2 : ltr ((104 : UInt8).toNat : Int) = 2 := by decide
  have l3 : ltr ((113 : UInt8).toNat : Int) = 8 := by decide
  simp only [unpackF, l1, l2, l3, List.length_drop, List.length_take, List.drop_drop]
  rw [if_neg (by omega), if_neg (by omega), if_neg (by omega), if_neg (by omega), if_pos (List.drop_eq_nil_of_le (by rw [List.length_take]; omega))]
  simp only [Option.map_some, Option.some.injEq, List.cons.injEq, and_true]
  unfold rM rK rN rS
  simp only [List.drop_take, List.take_take]
  exact ⟨rfl, rfl, rfl, rfl⟩
theorem nat64 {n : Nat} (h : n < 18446744073709551616) : ((UInt64.ofNat n).toNat : Int) = (n : Int) := by rw [UInt64.toNat_ofNat']; omega

/-- The record that bytes may begin with; the one that they do. -/
def cand (b : List UInt8) : Rp := ⟨(rK b : Int), (rS b : Int), (b.drop 16).take (rN b)⟩
def rdF (b : List UInt8) : Option (Rp × Nat) := if rN b + 20 ≤ b.length ∧ (cand b).ok = true ∧ recB (cand b) = b.take (rN b + 20) then some (cand b, rN b + 20) else none
theorem cand_len {b : List UInt8} (h : rN b + 20 ≤ b.length) : (cand b).l.length = rN b := by
  show ((b.drop 16).take (rN b)).length = _
  rw [List.length_take, List.length_drop]
  omega
theorem cand_ok {b : List UInt8} (h : rN b + 20 ≤ b.length) : (cand b).ok = rchk (rK b) (rS b) (rN b) := by
  unfold Rp.ok
  rw [cand_len h]
  rfl
theorem rd_short {b : List UInt8} (h : ¬ rN b + 20 ≤ b.length) : rdF b = none := by
  unfold rdF
  rw [if_neg (fun hh => h hh.1)]
theorem rd_short20 {b : List UInt8} (h : b.length < 20) : rdF b = none := rd_short (by omega)
theorem rd_bad {b : List UInt8} (hl : rN b + 20 ≤ b.length) (h : rchk (rK b) (rS b) (rN b) = false) : rdF b = none := by
  unfold rdF
  rw [if_neg]
  rintro ⟨_, h2, _⟩
  rw [cand_ok hl, h] at h2
  cases h2
theorem rd_big {b : List UInt8} (h : 4096 < rN b) : rdF b = none := by
  by_cases hl : rN b + 20 ≤ b.length
  · refine rd_bad hl ?_
    cases hc : rchk (rK b) (rS b) (rN b)
    · rfl
    · have := rchk_all hc
      omega
  · exact rd_short hl
theorem rd_mark {b : List UInt8} (h : rM b ≠ 1196184151) : rdF b = none := by
  unfold rdF
  rw [if_neg]
  rintro ⟨h1, _, h3⟩
  apply h
  have e := congrArg rM h3
  unfold recB sealF at e
  rw [List.append_assoc] at e
  unfold headF at e
  rw [rM_head _ _ _ _ _ (by decide)] at e
  rw [e]
  unfold rM
  rw [List.take_take, Nat.min_eq_left (by omega)]
theorem rd_sum {b : List UInt8} (h : openF (b.take (rN b + 20)) = none) : rdF b = none := by
  unfold rdF
  rw [if_neg]
  rintro ⟨_, _, h3⟩
  rw [← h3] at h
  unfold recB at h
  rw [open_seal] at h
  cases h
theorem cut_head {b : List UInt8} (h : rN b + 20 ≤ b.length) : b.take (rN b + 16) = b.take 16 ++ (cand b).l := by
  show _ = _ ++ (b.drop 16).take (rN b)
  rw [Nat.add_comm, List.take_add]
theorem recB_cand {b : List UInt8} (hl : rN b + 20 ≤ b.length) (hm : rM b = 1196184151) : recB (cand b) = sealF (b.take (rN b + 16)) := by
  unfold recB
  rw [cand_len hl, cut_head hl, ← head_of (by omega), hm]
  rfl
theorem rd_yes {b t : List UInt8} (hl : rN b + 20 ≤ b.length) (hm : rM b = 1196184151) (ho : openF (b.take (rN b + 20)) = some t) (hc : rchk (rK b) (rS b) (rN b) = true) :
    rdF b = some (cand b, rN b + 20) ∧ t.drop 16 = (cand b).l ∧ t.length = rN b + 16 := by
  have hlen : (b.take (rN b + 20)).length = rN b + 20 := by rw [List.length_take]; omega
  unfold openF at ho
  split at ho
  · rename_i hh
    rw [hlen, show rN b + 20 - 4 = rN b + 16 by omega, List.take_take, Nat.min_eq_left (by omega)] at ho hh
    cases ho
    refine ⟨?_, ?_, by rw [List.length_take]; omega⟩
    · unfold rdF
      rw [if_pos ⟨hl, by rw [cand_ok hl, hc], by rw [recB_cand hl hm]; exact hh.2⟩]
    · rw [cut_head hl, List.drop_append_of_le_length (by rw [List.length_take]; omega), List.drop_eq_nil_of_le (by rw [List.length_take]; omega), List.nil_append]
  · cases ho
/-- The document's test: the record is written so. -/
theorem rd_same {b : List UInt8} (hl : rN b + 20 ≤ b.length) (hc : rchk (rK b) (rS b) (rN b) = true) (h : recB (cand b) = b.take (rN b + 20)) : rdF b = some (cand b, rN b + 20) := by
  unfold rdF
  rw [if_pos ⟨hl, by rw [cand_ok hl, hc], h⟩]
theorem rd_other {b : List UInt8} (h : recB (cand b) ≠ b.take (rN b + 20)) : rdF b = none := by
  unfold rdF
  rw [if_neg (fun hh => h hh.2.2)]

/-- What is read was written so. -/
theorem rd_some {b : List UInt8} {r : Rp} {n : Nat} (h : rdF b = some (r, n)) : r.ok = true ∧ n = r.l.length + 20 ∧ n ≤ b.length ∧ recB r = b.take n ∧ r = cand b ∧ n = rN b + 20 := by
  unfold rdF at h
  split at h
  · rename_i hh
    cases h
    exact ⟨hh.2.1, by rw [cand_len hh.1], hh.1, hh.2.2, rfl, rfl⟩
  · cases h
theorem rec_form (r : Rp) (t : List UInt8) : ∃ u, recB r ++ t = headM 1196184151 r.k.toNat r.l.length r.s.toNat ++ (r.l ++ u) := by
  refine ⟨leb 4 (moreF 0#32 (headF r.k.toNat r.l.length r.s.toNat ++ r.l)).toNat ++ t, ?_⟩
  unfold recB sealF
  simp only [List.append_assoc]
  rfl
theorem rN_rec {r : Rp} (h : r.ok = true) (t : List UInt8) : rN (recB r ++ t) = r.l.length := by
  obtain ⟨u, e⟩ := rec_form r t
  have := Rp.all h
  rw [e, rN_head _ _ _ _ _ (by omega)]
theorem cand_rec {r : Rp} (h : r.ok = true) (t : List UInt8) : cand (recB r ++ t) = r := by
  obtain ⟨u, e⟩ := rec_form r t
  have ha := Rp.all h
  have h1 := rN_rec h t
  unfold cand
  rw [h1, e]
  refine Rp.ext_of ?_ ?_ ?_
  · show ((rK _ : Nat) : Int) = _
    rw [rK_head _ _ _ _ _ (by omega)]
    omega
  · show ((rS _ : Nat) : Int) = _
    rw [rS_head _ _ _ _ _ (by omega)]
    omega
  · show List.take r.l.length (List.drop 16 _) = r.l
    have : (headM 1196184151 r.k.toNat r.l.length r.s.toNat).length = 16 := headM_length _ _ _ _
    rw [List.drop_append_of_le_length (by omega), List.drop_eq_nil_of_le (by omega), List.nil_append, List.take_append_of_le_length (Nat.le_refl _), List.take_length]
/-- A record is read as it was written, whatever stands behind. -/
theorem rd_rec {r : Rp} (h : r.ok = true) (t : List UInt8) : rdF (recB r ++ t) = some (r, (recB r).length) := by
  have h1 := rN_rec h t
  have h2 := cand_rec h t
  have h3 := recB_length r
  unfold rdF
  rw [h1, h2, h3, if_pos ⟨by rw [List.length_append, h3]; omega, h, by rw [← h3, List.take_left]⟩]
theorem rd_rec0 {r : Rp} (h : r.ok = true) : rdF (recB r) = some (r, (recB r).length) := by
  have := rd_rec h []
  rwa [List.append_nil] at this
theorem rN_take {b : List UInt8} {m : Nat} (h : 20 ≤ m) : rN (b.take m) = rN b := by
  unfold rN
  rw [List.drop_take, List.take_take, Nat.min_eq_left (by omega)]
/-- Fewer of its bytes are none. -/
theorem rd_cut {r : Rp} (h : r.ok = true) {m : Nat} (hm : m < (recB r).length) : rdF ((recB r).take m) = none := by
  by_cases h20 : m < 20
  · exact rd_short20 (by rw [List.length_take]; omega)
  · refine rd_short ?_
    have h1 := rN_rec h []
    rw [List.append_nil] at h1
    have h2 := recB_length r
    rw [rN_take (by omega), h1, List.length_take]
    omega
theorem rec_inj {a b : Rp} (ha : a.ok = true) (hb : b.ok = true) (h : recB a = recB b) : a = b := by
  have h1 := rd_rec0 ha
  rw [h, rd_rec0 hb] at h1
  exact (congrArg Prod.fst (Option.some.inj h1)).symm
theorem rec_apart {a b : Rp} (ha : a.ok = true) (hb : b.ok = true) {n : Nat} (hn : n = min (recB a).length (recB b).length) (h : (recB a).take n = (recB b).take n) : a = b := by
  have la := recB_length a
  have lb := recB_length b
  have h1 := rN_rec ha []
  have h2 := rN_rec hb []
  rw [List.append_nil] at h1 h2
  have h3 : rN ((recB a).take n) = rN ((recB b).take n) := by rw [h]
  rw [rN_take (by omega), rN_take (by omega), h1, h2] at h3
  refine rec_inj ha hb ?_
  rwa [List.take_of_length_le (by omega), List.take_of_length_le (by omega)] at h

/-- Records one behind the other, with their places, from a place on. -/
def scF (b : List UInt8) (p : Nat) : List (Rp × Nat) :=
  match h : rdF (b.drop p) with
  | none => []
  | some x => (x.1, p) :: scF b (p + x.2)
termination_by b.length - p
decreasing_by
  obtain ⟨r, n⟩ := x
  obtain ⟨_, h2, h3, _⟩ := rd_some h
  rw [List.length_drop] at h3
  show b.length - (p + n) < b.length - p
  omega
theorem sc_none {b : List UInt8} {p : Nat} (h : rdF (b.drop p) = none) : scF b p = [] := by
  rw [scF]
  split
  · rfl
  · rename_i x hx
    rw [h] at hx
    cases hx
theorem sc_some {b : List UInt8} {p : Nat} {r : Rp} {n : Nat} (h : rdF (b.drop p) = some (r, n)) : scF b p = (r, p) :: scF b (p + n) := by
  rw [scF]
  split
  · rename_i hx
    rw [h] at hx
    cases hx
  · rename_i x hx
    rw [h] at hx
    cases hx
    rfl
/-- Where records stand. -/
def laidAt : Nat → List Rp → List (Rp × Nat)
  | _, [] => []
  | p, r :: rs => (r, p) :: laidAt (p + (recB r).length) rs
def allB (rs : List Rp) : List UInt8 := (rs.map recB).flatten
theorem sc_all : ∀ (rs : List Rp), (∀ r ∈ rs, r.ok = true) → ∀ (h t : List UInt8), rdF t = none → scF (h ++ (allB rs ++ t)) h.length = laidAt h.length rs
  | [], _, h, t, ht => sc_none (by simpa [allB] using ht)
  | r :: rs, hr, h, t, ht => by
    have e : allB (r :: rs) ++ t = recB r ++ (allB rs ++ t) := by simp [allB]
    have h1 : rdF ((h ++ (allB (r :: rs) ++ t)).drop h.length) = some (r, (recB r).length) := by
      rw [List.drop_left, e]
      exact rd_rec (hr r (by simp)) _
    rw [sc_some h1]
    have h2 := sc_all rs (fun x hx => hr x (by simp [hx])) (h ++ recB r) t ht
    rw [List.length_append] at h2
    rw [e, ← List.append_assoc, h2]
    rfl
theorem laid_snoc : ∀ (rs : List Rp) (p : Nat) (r : Rp), laidAt p (rs ++ [r]) = laidAt p rs ++ [(r, p + (allB rs).length)]
  | [], p, r => by simp [laidAt, allB]
  | x :: rs, p, r => by
    have h := laid_snoc rs (p + (recB x).length) r
    simp only [List.cons_append, laidAt, h]
    simp [allB, Nat.add_assoc]
theorem allB_snoc (rs : List Rp) (r : Rp) : allB (rs ++ [r]) = allB rs ++ recB r := by simp [allB]
theorem laid_fst : ∀ (rs : List Rp) (p : Nat), (laidAt p rs).map Prod.fst = rs
  | [], _ => rfl
  | x :: rs, p => by simp [laidAt, laid_fst rs]
theorem laid_length (rs : List Rp) (p : Nat) : (laidAt p rs).length = rs.length := by
  have := congrArg List.length (laid_fst rs p)
  simpa using this
theorem rd_nil : rdF [] = none := rd_short20 (by decide)
theorem sc_recs {rs : List Rp} (h : ∀ r ∈ rs, r.ok = true) : scF (allB rs) 0 = laidAt 0 rs := by
  have := sc_all rs h [] [] rd_nil
  simpa using this
theorem sc_recs_cut {rs : List Rp} {r : Rp} (h : ∀ x ∈ rs, x.ok = true) (hr : r.ok = true) {m : Nat} (hm : m < (recB r).length) : scF (allB rs ++ (recB r).take m) 0 = laidAt 0 rs := by
  have := sc_all rs h [] _ (rd_cut hr hm)
  simpa using this
end Go.Wag
