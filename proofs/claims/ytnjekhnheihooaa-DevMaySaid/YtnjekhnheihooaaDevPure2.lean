/-
  What commands and crashes keep of a device's bytes.
-/
import Derived.Test.YtnjekhnheihooaaDevPure
namespace Go.Proofs.Ytnjekhnheihooaa
open Go.RowKit Go.Wag
set_option linter.unusedVariables false

theorem dev_chg {size : Int} {zs : List Zp} {N : Int} {op : Nat} {H : Zp → Zp} {E : Zp → Int} (hok : ZOk size op H E) (h : devF size zs = true) : devF size (chgZs zs N H E) = true := by
  by_cases hN : 0 ≤ N ∧ N < zs.length
  · have hl : N.toNat < zs.length := by omega
    have hz := List.getElem?_eq_getElem hl
    rw [(chg_yes H E hN hz).1]
    by_cases hE : E zs[N.toNat] = 0
    · rw [if_pos hE]
      exact dev_set h _ _ (hok zs[N.toNat] ((dev_parts.1 h).2 _ (List.getElem_mem _)) hE).1
    · rw [if_neg hE]
      exact h
  · rw [(chg_no H E hN).1]
    exact h
theorem dev_ru {size : Int} {zs : List Zp} (lf : Int) (dw : Bool) (kd N : Int) (b : List UInt8) (h : devF size zs = true) : devF size (ruZs size lf dw zs kd N b) = true := by
  unfold ruZs
  split
  · unfold cmdZs
    repeat' split
    · exact dev_chg (zok_ap _ _ _) h
    · exact dev_chg (zok_rs _ 0) h
    · exact dev_chg (zok_fi _ 0) h
    · exact dev_chg (zok_cl _ 0) h
    · exact dev_fs5 h
    · exact h
  · exact h
/-- What lasts of z is kept in z'. -/
def Kq (z z' : Zp) : Prop := z.la ≤ z'.l.length ∧ z'.l.take z.la.toNat = z.l.take z.la.toNat
theorem Kq.of_app {z z' : Zp} {t : List UInt8} (h : z'.l = z.l ++ t) (hl : z.la ≤ z.l.length) : Kq z z' := by
  refine ⟨by rw [h, List.length_append]; omega, ?_⟩
  rw [h, List.take_append_of_le_length (by omega)]
theorem Kq.rfl_ {z : Zp} (hl : z.la ≤ z.l.length) : Kq z z := Kq.of_app (t := []) (by simp) hl
def ZKp (H : Zp → Zp) (E : Zp → Int) : Prop := ∀ z, E z = 0 → ∃ t, (H z).l = z.l ++ t
theorem keep_chg {size : Int} {zs : List Zp} {N : Int} {H : Zp → Zp} {E : Zp → Int} (hk : ZKp H E) (h : devF size zs = true) (i : Nat) (z : Zp) (hz : zs[i]? = some z) : ∃ z', (chgZs zs N H E)[i]? = some z' ∧ Kq z z' := by
  have hla : z.la ≤ z.l.length := (chk_all ((dev_parts.1 h).2 z (List.mem_of_getElem? hz))).2.2.2.2.2.2.2.2.1
  by_cases hN : 0 ≤ N ∧ N < zs.length
  · have hl : N.toNat < zs.length := by omega
    have hzN := List.getElem?_eq_getElem hl
    rw [(chg_yes H E hN hzN).1]
    by_cases hE : E zs[N.toNat] = 0
    · rw [if_pos hE, List.getElem?_set]
      by_cases hi : N.toNat = i
      · subst hi
        rw [if_pos rfl, if_pos hl]
        obtain rfl : zs[N.toNat] = z := Option.some.inj (hzN.symm.trans hz)
        obtain ⟨t, ht⟩ := hk _ hE
        exact ⟨_, rfl, Kq.of_app ht hla⟩
      · rw [if_neg hi]
        exact ⟨z, hz, Kq.rfl_ hla⟩
    · rw [if_neg hE]
      exact ⟨z, hz, Kq.rfl_ hla⟩
  · rw [(chg_no H E hN).1]
    exact ⟨z, hz, Kq.rfl_ hla⟩
theorem zkp_ap (size : Int) (op : Nat) (b : List UInt8) : ZKp (apH size op b) (apE size op b) := by
  intro z hE
  cases hno : apNo op z with
  | true =>
    rw [apE, hno] at hE
    simp at hE
  | false =>
    rw [apE, hno] at hE
    simp only [Bool.false_eq_true, if_false] at hE
    refine ⟨b, ?_⟩
    rw [apH, hno]
    simp only [Bool.false_eq_true, if_false, appDa, hE, if_true]
theorem keep_ru {size : Int} {zs : List Zp} (lf : Int) (dw : Bool) (kd N : Int) (b : List UInt8) (h : devF size zs = true) (h2 : kd ≠ 2) (i : Nat) (z : Zp) (hz : zs[i]? = some z) : ∃ z', (ruZs size lf dw zs kd N b)[i]? = some z' ∧ Kq z z' := by
  have hla : z.la ≤ z.l.length := (chk_all ((dev_parts.1 h).2 z (List.mem_of_getElem? hz))).2.2.2.2.2.2.2.2.1
  unfold ruZs
  split
  · simp only [cmdZs, if_neg h2]
    repeat' split
    · exact keep_chg (zkp_ap _ _ _) h i z hz
    · exact keep_chg (fun z _ => ⟨[], by simp [fiH]⟩) h i z hz
    · exact keep_chg (fun z _ => ⟨[], by simp [clH]⟩) h i z hz
    · exact ⟨fsZ z, by rw [List.getElem?_map, hz]; rfl, Kq.of_app (t := []) (by simp [fsZ]) hla⟩
    · exact ⟨z, hz, Kq.rfl_ hla⟩
  · exact ⟨z, hz, Kq.rfl_ hla⟩
theorem cd_at (size : Int) (ks : List Int) (zs : List Zp) {i : Nat} {z : Zp} (hd : devF size zs = true) (hz : zs[i]? = some z) : (cdZs size ks zs)[i]? = some (crZ size (keepAt ks i) z) := by
  rw [cdZs, hd, if_pos rfl, crZs, List.getElem?_mapIdx, hz]
  rfl
theorem cr_ok {size keep : Int} {z : Zp} (hc : zchk size z = true) : zchk size (crZ size keep z) = true ∧ (crZ size keep z).st ≠ 1 ∧ Kq z (crZ size keep z) := by
  have h := chk_all hc
  have hc' : chkF z.st z.rs z.l.length z.la size = true := hc
  obtain ⟨kk, hkk⟩ : ∃ k, crK z.l.length z.la keep = k := ⟨_, rfl⟩
  have hk : z.la ≤ kk ∧ kk ≤ z.l.length ∧ 0 ≤ kk := by
    rw [← hkk, crK]
    omega
  have hl : ((z.l.take kk.toNat).length : Int) = kk := by
    rw [List.length_take]
    omega
  have e : crZ size keep z = ⟨if kk = 0 then 0 else if z.st = 3 then 3 else 2, z.rs, kk, z.l.take kk.toNat⟩ := by
    simp only [crZ, crSt, crLa, crDa, hc', if_true, hkk]
  rw [e]
  refine ⟨?_, ?_, ?_, ?_⟩
  · rw [zchk, chkF]
    refine decide_eq_true ?_
    simp only [hl]
    split
    · omega
    · split <;> omega
  · simp only
    split
    · omega
    · split <;> omega
  · simp only [hl]
    omega
  · simp only
    rw [List.take_take, Nat.min_eq_left (by omega)]
theorem cd_ok {size : Int} {zs : List Zp} (ks : List Int) (h : devF size zs = true) : devF size (cdZs size ks zs) = true ∧ openF (cdZs size ks zs) = 0 := by
  obtain ⟨h1, h2⟩ := dev_parts.1 h
  have hm : ∀ z' ∈ cdZs size ks zs, ∃ z ∈ zs, ∃ keep, z' = crZ size keep z := fun z' hz' => by
    rw [cdZs, h, if_pos rfl, crZs] at hz'
    obtain ⟨i, hi, rfl⟩ := List.mem_mapIdx.1 hz'
    exact ⟨_, List.getElem_mem hi, _, rfl⟩
  refine ⟨dev_parts.2 ⟨by rw [len_cd]; exact h1, fun z' hz' => ?_⟩, ?_⟩
  · obtain ⟨z, hz, keep, rfl⟩ := hm z' hz'
    exact (cr_ok (h2 z hz)).1
  · rw [openF, List.countP_eq_zero]
    intro z' hz'
    obtain ⟨z, hz, keep, rfl⟩ := hm z' hz'
    simpa using (cr_ok (keep := keep) (h2 z hz)).2.1
theorem keep_cd {size : Int} {zs : List Zp} (ks : List Int) (h : devF size zs = true) (i : Nat) (z : Zp) (hz : zs[i]? = some z) : ∃ z', (cdZs size ks zs)[i]? = some z' ∧ Kq z z' :=
  ⟨_, cd_at size ks zs h hz, (cr_ok ((dev_parts.1 h).2 z (List.mem_of_getElem? hz))).2.2⟩
end Go.Proofs.Ytnjekhnheihooaa
