/-
  What a command makes of devices that may be.
-/
import Derived.Test.YtnjekhnheihooaaDev9
import Derived.Test.YtnjekhnheihooaaDevArgs
namespace Go.Proofs.Ytnjekhnheihooaa
open Go.RowKit Go.Wag
set_option linter.unusedVariables false

/-- The three cells of command i. -/
theorem cmd_at {w : World} {a : Option Addr} {len cap i : Nat} (h : IsSts [.num .i64, .num .i64, .row .u8] w a len cap) (hi : i < len) : ∃ (ab ao : Nat) (kd N : Int) (Ab : Option Addr) (nb cb : Nat) (b : List UInt8), a = some ⟨ab, ao, none⟩ ∧ len ≤ cap ∧ ab < w.heap.size ∧
    w.cell? ⟨ab, ao + i * 3, none⟩ = some (.int .i64 kd) ∧ w.cell? ⟨ab, ao + i * 3 + 1, none⟩ = some (.int .i64 N) ∧ w.cell? ⟨ab, ao + i * 3 + 2, none⟩ = some (.slice Ab nb cb) ∧ Sl w Ab nb cb (b.map v8) := by
  rcases h with ⟨_, h0, _⟩ | ⟨ad, rfl, hl, _, hc⟩
  · omega
  · obtain ⟨v0, c0, kd, rfl, _⟩ := hc i hi 0 _ rfl
    obtain ⟨v1, c1, N, rfl, hN⟩ := hc i hi 1 _ rfl
    obtain ⟨v2, c2, Ab, nb, cb, zs, rfl, hr⟩ := hc i hi 2 _ rfl
    obtain ⟨b, hb⟩ := hr.bytes
    obtain ⟨ab, ao, sp⟩ := ad
    have hblk : ab < w.heap.size := by
      by_cases hx : ab < w.heap.size
      · exact hx
      · exfalso
        unfold World.cell? at c0
        rw [add_block, Array.getElem?_eq_none (by simp; omega)] at c0
        cases c0
    cases sp with
    | none =>
      refine ⟨ab, ao, kd, N, Ab, nb, cb, b, rfl, hl, hblk, ?_, ?_, ?_, hb⟩
      · rw [Addr.add_lit] at c0; exact c0
      · rw [Addr.add_lit, ← Nat.add_assoc] at c1; exact c1
      · rw [Addr.add_lit, ← Nat.add_assoc] at c2; exact c2
    | some sp =>
      exfalso
      obtain ⟨v, cz, _⟩ := hc 0 (by omega) 0 _ rfl
      unfold World.cell? at cz
      split at cz
      · simp [Addr.add] at cz
      · cases cz

theorem dev_parts {size : Int} {zs : List Zp} : devF size zs = true ↔ mayF zs.length size = true ∧ ∀ z ∈ zs, zchk size z = true := by
  simp only [devF, Bool.and_eq_true, List.all_eq_true]
theorem sm_dev {size : Int} {zs : List Zp} (h : devF size zs = true) : Sm zs := by
  obtain ⟨h1, h2⟩ := dev_parts.1 h
  simp only [mayF, decide_eq_true_eq] at h1
  refine ⟨by omega, fun z hz => ?_⟩
  have := chk_all (h2 z hz)
  omega
theorem dev_set {size : Int} {zs : List Zp} (h : devF size zs = true) (k : Nat) (z : Zp) (hz : zchk size z = true) : devF size (zs.set k z) = true := by
  obtain ⟨h1, h2⟩ := dev_parts.1 h
  refine dev_parts.2 ⟨by rw [List.length_set]; exact h1, fun x hx => ?_⟩
  rcases List.mem_or_eq_of_mem_set hx with hx | rfl
  · exact h2 x hx
  · exact hz
theorem open_set {zs : List Zp} {k : Nat} {z z' : Zp} (hz : zs[k]? = some z) : openF (zs.set k z') + (if z.st = 1 then 1 else 0) = openF zs + (if z'.st = 1 then 1 else 0) := by
  obtain ⟨hk, rfl⟩ := List.getElem?_eq_some_iff.1 hz
  have hle : (if (zs[k].st == 1) = true then 1 else 0) ≤ zs.countP (fun z => z.st == 1) := by
    split
    · rename_i h
      exact List.countP_pos_iff.2 ⟨zs[k], List.getElem_mem _, h⟩
    · omega
  simp only [openF, List.countP_set hk]
  simp only [beq_iff_eq] at hle ⊢
  omega
/-- What a zone's command must keep. -/
def ZOk (size : Int) (op : Nat) (H : Zp → Zp) (E : Zp → Int) : Prop := ∀ z, zchk size z = true → E z = 0 → zchk size (H z) = true ∧ ((H z).st = 1 → z.st = 1 ∨ op < 3)
theorem ok_chg {size : Int} {zs : List Zp} {N : Int} {H : Zp → Zp} {E : Zp → Int} (hok : ZOk size (openF zs) H E) (h : devF size zs = true) (ho : openF zs ≤ 3) : devF size (chgZs zs N H E) = true ∧ openF (chgZs zs N H E) ≤ 3 := by
  by_cases hN : 0 ≤ N ∧ N < zs.length
  · have hl : N.toNat < zs.length := by omega
    have hz := List.getElem?_eq_getElem hl
    rw [(chg_yes H E hN hz).1]
    by_cases hE : E zs[N.toNat] = 0
    · rw [if_pos hE]
      obtain ⟨h1, h2⟩ := hok zs[N.toNat] ((dev_parts.1 h).2 _ (List.getElem_mem _)) hE
      refine ⟨dev_set h _ _ h1, ?_⟩
      have hs := open_set (z' := H zs[N.toNat]) hz
      by_cases hs1 : (H zs[N.toNat]).st = 1
      · rcases h2 hs1 with h3 | h3
        · rw [if_pos h3, if_pos hs1] at hs
          omega
        · rw [if_pos hs1] at hs
          omega
      · rw [if_neg hs1] at hs
        omega
    · rw [if_neg hE]
      exact ⟨h, ho⟩
  · rw [(chg_no H E hN).1]
    exact ⟨h, ho⟩
theorem zok_ap (size : Int) (op : Nat) (b : List UInt8) : ZOk size op (apH size op b) (apE size op b) := by
  intro z hz hE
  have hc := chk_all hz
  cases hno : apNo op z with
  | true =>
    rw [apE, hno] at hE
    simp at hE
  | false =>
    rw [apE, hno] at hE
    simp only [Bool.false_eq_true, if_false] at hE
    have hH : apH size op b z = ⟨fullF (z.l.length + b.length) size, z.rs, z.la, z.l ++ b⟩ := by
      rw [apH, hno]
      simp only [Bool.false_eq_true, if_false, appSt, appDa, hE, if_true]
    rw [hH]
    have hm : (b.length : Int) ≠ 0 ∧ (b.length : Int) ≤ size - z.l.length ∧ z.st ≠ 3 := by
      rw [appErrF] at hE
      split at hE
      · rename_i h1
        split at hE
        · rename_i h2
          rw [roomF] at h2
          split at h2
          · rename_i h3
            exact ⟨h1.2, h2, h3.2⟩
          · exact absurd h1.2 (by omega)
        · cases hE
      · cases hE
    refine ⟨?_, fun h => ?_⟩
    · rw [zchk, chkF]
      refine decide_eq_true ?_
      simp only [fullF, List.length_append, Int.natCast_add]
      split <;> omega
    · simp only [apNo, Bool.and_eq_false_iff, Bool.not_eq_false', beq_iff_eq, decide_eq_false_iff_not] at hno
      rcases hno with h1 | h1
      · exact .inl h1
      · exact .inr (by omega)
theorem zok_rs (size : Int) (op : Nat) : ZOk size op rsH rsE := by
  intro z hz hE
  have hc := chk_all hz
  have hB : resB z.st z.rs = true := by
    cases h : resB z.st z.rs with
    | true => rfl
    | false => simp [rsE, resEr, h] at hE
  have hH : rsH z = ⟨0, z.rs + 1, 0, []⟩ := by simp [rsH, resSt, resRs, resLa, resDa, hB]
  have hr : z.rs < 1073741824 := by
    simp only [resB, Bool.and_eq_true, decide_eq_true_eq] at hB
    omega
  rw [hH]
  refine ⟨?_, fun h => by simp at h⟩
  rw [zchk, chkF]
  refine decide_eq_true ?_
  simp only [List.length_nil]
  omega
theorem zok_fi (size : Int) (op : Nat) : ZOk size op fiH fiE := by
  intro z hz hE
  have hc := chk_all hz
  have hs : z.st = 1 ∨ z.st = 2 := by
    by_cases h : z.st = 1 ∨ z.st = 2
    · exact h
    · simp [fiE, finEr, h] at hE
  have hH : fiH z = ⟨3, z.rs, z.la, z.l⟩ := by simp [fiH, finSt, hs]
  rw [hH]
  refine ⟨?_, fun h => by simp at h⟩
  rw [zchk, chkF]
  exact decide_eq_true (by simp only; omega)
theorem zok_cl (size : Int) (op : Nat) : ZOk size op clH clE := by
  intro z hz hE
  have hc := chk_all hz
  have hs : z.st = 1 := by
    by_cases h : z.st = 1
    · exact h
    · simp [clE, cloEr, h] at hE
  have hH : clH z = ⟨2, z.rs, z.la, z.l⟩ := by simp [clH, cloSt, hs]
  rw [hH]
  refine ⟨?_, fun h => by simp at h⟩
  rw [zchk, chkF]
  exact decide_eq_true (by simp only; omega)
theorem dev_fs5 {size : Int} {zs : List Zp} (h : devF size zs = true) : devF size (zs.map fsZ) = true := by
  obtain ⟨h1, h2⟩ := dev_parts.1 h
  refine dev_parts.2 ⟨by rw [List.length_map]; exact h1, fun z hz => ?_⟩
  obtain ⟨z0, h0, rfl⟩ := List.mem_map.1 hz
  have := chk_all (h2 z0 h0)
  show chkF z0.st z0.rs z0.l.length z0.l.length size = true
  rw [chkF]
  exact decide_eq_true (by omega)
theorem open_fs (zs : List Zp) : openF (zs.map fsZ) = openF zs := by
  simp only [openF, List.countP_map]
  rfl
theorem ok_cmd {size : Int} {zs : List Zp} (kd N : Int) (b : List UInt8) (h : devF size zs = true) (ho : openF zs ≤ 3) : devF size (cmdZs size zs kd N b) = true ∧ openF (cmdZs size zs kd N b) ≤ 3 := by
  unfold cmdZs
  repeat' split
  · exact ok_chg (zok_ap _ _ _) h ho
  · exact ok_chg (zok_rs _ _) h ho
  · exact ok_chg (zok_fi _ _) h ho
  · exact ok_chg (zok_cl _ _) h ho
  · exact ⟨dev_fs5 h, by rw [open_fs]; exact ho⟩
  · exact ⟨h, ho⟩
theorem ok_ru {size : Int} {zs : List Zp} (lf : Int) (dw : Bool) (kd N : Int) (b : List UInt8) (h : devF size zs = true) (ho : openF zs ≤ 3) : devF size (ruZs size lf dw zs kd N b) = true ∧ openF (ruZs size lf dw zs kd N b) ≤ 3 := by
  unfold ruZs
  split
  · exact ok_cmd kd N b h ho
  · exact ⟨h, ho⟩
end Go.Proofs.Ytnjekhnheihooaa
