/-
  Blocks and their maps, there and back: plain facts. No program is named here.
-/
import Derived.Test.YtepaojegcaapfaaImC
import Derived.Test.YtepaojegcaapfaaImB
namespace Go.Wag
open Go.RowKit
set_option linter.unusedVariables false
theorem xone_self {x : Xp} (h : x.ok = true) (hn : x.n = 1) : xone x x.la = x := by
  have := xpart_all h
  rw [hn] at this
  exact this
theorem mat_ones : ∀ (l : List Cp) (i : Nat), (∀ c ∈ l, c.d.length = 32) → (∀ c ∈ l, c.ok = true) → i + l.length ≤ 64 → ∀ k : Nat, mat (ones i l) (k : Int) = if i ≤ k then (l[k - i]?).map (oneX k) else none
  | [], i, _, _, _, k => by simp [ones, mat]
  | c :: l, i, hw, ho, hi, k => by
    rw [List.length_cons] at hi
    have ok := oneX_ok (i := i) (hw c (List.mem_cons_self ..)) (ho c (List.mem_cons_self ..)) (by omega)
    have ih := mat_ones l (i + 1) (fun d hd => hw d (List.mem_cons_of_mem _ hd)) (fun d hd => ho d (List.mem_cons_of_mem _ hd)) (by omega) k
    rw [ones, mat_cons]
    by_cases hk : k = i
    · subst hk
      have e := xone_self ok rfl
      have e2 : xone (oneX k c) (k : Int) = oneX k c := e
      rw [if_pos (show xhas (oneX k c) (k : Int) from ⟨Int.le_refl _, by show (k : Int) < (k : Int) + 1; omega⟩), e2, if_pos (Nat.le_refl _), Nat.sub_self]
      rfl
    · have hn : ¬ xhas (oneX i c) (k : Int) := by
        rintro ⟨a1, a2⟩
        have a1' : (i : Int) ≤ k := a1
        have a2' : (k : Int) < (i : Int) + 1 := a2
        omega
      rw [if_neg hn, ih]
      by_cases hik : i + 1 ≤ k
      · rw [if_pos hik, if_pos (by omega), show k - i = (k - (i + 1)) + 1 by omega, List.getElem?_cons_succ]
      · rw [if_neg hik, if_neg (by omega)]
theorem mat_imap {l : List Cp} (hw : ∀ c ∈ l, c.d.length = 32) (hi : ichk l = true) (k : Nat) : mat (imap l) (k : Int) = (l[k]?).map (oneX k) := by
  obtain ⟨⟨_, h64⟩, ho⟩ := ichk_iff.1 hi
  unfold imap
  rw [mat_joinL, mat_ones l 0 hw ho (by omega) k, if_pos (Nat.zero_le _), Nat.sub_zero]
theorem xone_cell {x : Xp} (h : x.ok = true) {i : Nat} : xone x (x.la + i) = oneX (x.la + i).toNat ⟨x.k, x.g, chunk (xby x) i⟩ := by
  obtain ⟨h0, h1, _, _, _, _, _, h8, h9⟩ := Xp.all h
  unfold xone xpart oneX
  have e1 : (((x.la + (i : Int)).toNat : Nat) : Int) = x.la + i := by omega
  have e2 : x.la + (i : Int) + 1 - (x.la + i) = 1 := by omega
  have e3 : (32 * (x.la + (i : Int) + 1 - x.la)).toNat = 32 * i + 32 := by omega
  have e4 : (32 * (x.la + (i : Int) - x.la)).toNat = 32 * i := by omega
  rw [e1, e2, e3, e4]
  have e5 : (x.l.take (32 * i + 32)).drop (32 * i) = if x.k = 2 then chunk (xby x) i else [] := by
    by_cases hk : x.k = 2
    · rw [if_pos hk, xby, if_pos hk, chunk, List.drop_take, show 32 * i + 32 - 32 * i = 32 by omega]
    · rw [if_neg hk, h9 hk]
      simp
  rw [e5]
theorem iof_cons (x : Xp) (m : List Xp) : iof (x :: m) = xcells x ++ iof m := by simp [iof]
theorem mat_iof : ∀ {m : List Xp} {e f : Int}, mrun e m f → 0 ≤ e → ∀ k : Nat, e ≤ (k : Int) → mat m (k : Int) = ((iof m)[k - e.toNat]?).map (oneX k)
  | [], e, f, h, he, k, hk => by simp [iof, mat]
  | x :: m, e, f, h, he, k, hk => by
    obtain ⟨h1, h2, h3⟩ := h
    have hx := Xp.all h1
    have ih := mat_iof h3 (by omega) k
    rw [iof_cons, mat_cons]
    by_cases hh : (k : Int) < e + x.n
    · have hi : (k - e.toNat) < x.n.toNat := by omega
      have e1 := xone_cell h1 (i := k - e.toNat)
      have e2 : x.la + ((k - e.toNat : Nat) : Int) = (k : Int) := by omega
      rw [e2, Int.toNat_natCast] at e1
      rw [if_pos (show xhas x (k : Int) from ⟨by omega, by omega⟩), e1, List.getElem?_append_left (by rw [xcells_len]; exact hi), xcells_at hi]
      rfl
    · rw [if_neg (fun hh2 : xhas x (k : Int) => hh (by have := hh2.2; omega)), ih (by omega), List.getElem?_append_right (by rw [xcells_len]; omega), xcells_len, show k - (e + x.n).toNat = k - e.toNat - x.n.toNat by omega]
theorem iof_mem {m : List Xp} {c : Cp} (h : c ∈ iof m) : ∃ x ∈ m, ∃ i, i < x.n.toNat ∧ c = ⟨x.k, x.g, chunk (xby x) i⟩ := by
  unfold iof at h
  obtain ⟨cs, hcs, hc⟩ := List.mem_flatten.1 h
  obtain ⟨x, hx, rfl⟩ := List.mem_map.1 hcs
  unfold xcells at hc
  obtain ⟨i, hi, rfl⟩ := List.mem_map.1 hc
  exact ⟨x, hx, i, List.mem_range.1 hi, rfl⟩
theorem iof_ok {m : List Xp} {e f : Int} (h : mrun e m f) : ∀ c ∈ iof m, c.d.length = 32 ∧ c.ok = true := by
  intro c hc
  obtain ⟨x, hx, i, hi, rfl⟩ := iof_mem hc
  have ok := mrun_ok h x hx
  obtain ⟨h0, h1, _, h3, h4, h5, h6, _, _⟩ := Xp.all ok
  have hl := xby_length ok
  refine ⟨chunk_len (by omega), decide_eq_true ⟨h3, h4, h5, h6, fun hk => ?_⟩⟩
  show chunk (xby x) i = z32
  rw [xby, if_neg hk, chunk, List.drop_replicate, List.take_replicate, Nat.min_eq_left (by omega)]
  rfl
theorem iof_chk {b : Int} {m : List Xp} (h : mapB b m = true) : ichk (iof m) = true ∧ ((iof m).length : Int) = b ∧ ∀ c ∈ iof m, c.d.length = 32 := by
  obtain ⟨h1, h2, h3, _⟩ := (mapB_iff _ _).1 h
  have hl := iof_len h3
  exact ⟨ichk_iff.2 ⟨by omega, fun c hc => (iof_ok h3 c hc).2⟩, by omega, fun c hc => (iof_ok h3 c hc).1⟩
theorem mat_ext {b : Int} {l m : List Xp} (hl : mapB b l = true) (hm : mapB b m = true) (h : ∀ k : Nat, mat l (k : Int) = mat m (k : Int)) : l = m := by
  refine mapB_ext hl hm fun k => ?_
  by_cases hk : 0 ≤ k
  · obtain ⟨j, rfl⟩ : ∃ j : Nat, k = (j : Int) := ⟨k.toNat, by omega⟩
    exact h j
  · obtain ⟨_, _, r1, _⟩ := (mapB_iff _ _).1 hl
    obtain ⟨_, _, r2, _⟩ := (mapB_iff _ _).1 hm
    rw [mat_out r1 (.inl (by omega)), mat_out r2 (.inl (by omega))]
theorem imap_iof {b : Int} {m : List Xp} (h : mapB b m = true) : imap (iof m) = m := by
  obtain ⟨c1, c2, c3⟩ := iof_chk h
  have hm := imap_map c3 c1
  rw [c2] at hm
  obtain ⟨_, _, r, _⟩ := (mapB_iff _ _).1 h
  refine mat_ext hm h fun k => ?_
  rw [mat_imap c3 c1, mat_iof r (Int.le_refl _) k (by omega)]
  rfl
theorem cell_inj {c d : Cp} {k : Nat} (h : oneX k c = oneX k d) (hc : c.ok = true) (hd : d.ok = true) : c = d := by
  obtain ⟨ck, cg, cd⟩ := c
  obtain ⟨dk, dg, dd⟩ := d
  unfold oneX at h
  simp only [Xp.mk.injEq, true_and] at h
  obtain ⟨rfl, rfl, h3⟩ := h
  by_cases hk : ck = 2
  · rw [if_pos hk, if_pos hk] at h3
    rw [h3]
  · have e1 : cd = z32 := (Cp.all hc).2.2.2.2 hk
    have e2 : dd = z32 := (Cp.all hd).2.2.2.2 hk
    rw [e1, e2]
theorem iof_imap {l : List Cp} (hw : ∀ c ∈ l, c.d.length = 32) (hi : ichk l = true) : iof (imap l) = l := by
  have hr := imap_run hw hi
  have hm := imap_map hw hi
  obtain ⟨c1, c2, c3⟩ := iof_chk hm
  obtain ⟨_, ho⟩ := ichk_iff.1 hi
  obtain ⟨_, ho2⟩ := ichk_iff.1 c1
  apply List.ext_getElem?
  intro k
  have e1 := mat_imap hw hi k
  have e2 := mat_iof hr (Int.le_refl _) k (by omega)
  rw [e1] at e2
  have e3 : (l[k]?).map (oneX k) = ((iof (imap l))[k]?).map (oneX k) := e2
  cases h1 : l[k]? with
  | none =>
    cases h2 : (iof (imap l))[k]? with
    | none => rfl
    | some d => rw [h1, h2] at e3; cases e3
  | some c =>
    cases h2 : (iof (imap l))[k]? with
    | none => rw [h1, h2] at e3; cases e3
    | some d =>
      rw [h1, h2] at e3
      have e4 : oneX k c = oneX k d := Option.some.inj e3
      rw [cell_inj e4 (ho c (List.mem_of_getElem? h1)) (ho2 d (List.mem_of_getElem? h2))]
/-- Zeros over blocks, and over their map. -/
def zpx (lba n g : Int) : Xp := ⟨lba, n, 1, g, []⟩
theorem zpx_fit {b : Int} (hb : b ≤ 64) {k : Nat} (hk : (k : Int) = b) (lba n g : Int) : (hasF k lba n && decide ((1 : Int) = 0 ∨ (1 : Int) = 1) && genF g) = mfit b (zpx lba n g) := by
  rw [Bool.eq_iff_iff, mfit_iff, Bool.and_eq_true, Bool.and_eq_true]
  constructor
  · rintro ⟨⟨h1, _⟩, h3⟩
    have a := of_decide_eq_true h1
    have c := of_decide_eq_true h3
    refine ⟨Xp.ok_of a.1 a.2.1 ?_ (show (0 : Int) ≤ 1 by decide) (show (1 : Int) ≤ 2 by decide) c.1 c.2 (fun h => absurd h (show ¬ (1 : Int) = 2 by decide)) (fun _ => rfl), ?_⟩
    · show lba + n ≤ 64
      omega
    · show lba + n ≤ b
      omega
  · rintro ⟨h1, h2⟩
    obtain ⟨a1, a2, _, _, _, a6, a7, _, _⟩ := Xp.all h1
    have a1' : 0 ≤ lba := a1
    have a2' : 1 ≤ n := a2
    have h2' : lba + n ≤ b := h2
    exact ⟨⟨decide_eq_true ⟨a1', a2', by omega⟩, rfl⟩, decide_eq_true ⟨a6, a7⟩⟩
theorem fill_put {b : Int} {m : List Xp} (h : mapB b m = true) (lba n g : Int) : fillMay (iof m) lba n 1 g = mfit b (zpx lba n g) := by
  obtain ⟨_, c2, _⟩ := iof_chk h
  obtain ⟨_, hb, _, _⟩ := (mapB_iff _ _).1 h
  exact zpx_fit hb c2 lba n g
theorem fill_map {b : Int} {m : List Xp} (h : mapB b m = true) {lba n g : Int} (hf : fillMay (iof m) lba n 1 g = true) : ichk (fillR (iof m) lba n 1 g) = true ∧ imap (fillR (iof m) lba n 1 g) = mput b m (zpx lba n g) ∧ (fillR (iof m) lba n 1 g).length = (iof m).length := by
  have hx := (fill_put h lba n g).symm.trans hf
  obtain ⟨c1, c2, c3⟩ := iof_chk h
  obtain ⟨_, _, r, _⟩ := (mapB_iff _ _).1 h
  unfold fillMay at hf
  rw [Bool.and_eq_true, Bool.and_eq_true] at hf
  obtain ⟨⟨f1, f2⟩, f3⟩ := hf
  obtain ⟨a, j, rfl, rfl, hj, hfit⟩ := has_nat f1
  have ok1 : ∀ i, i < j → (⟨1, g, z32⟩ : Cp).ok = true := fun _ _ => ok_fill f3 (.inr rfl)
  unfold fillR
  rw [Int.toNat_natCast, Int.toNat_natCast]
  have d1 := ichk_sets (f := fun _ => (⟨1, g, z32⟩ : Cp)) (a := a) c1 ok1
  have d2 : ∀ c ∈ setsF (iof m) a (fun _ => (⟨1, g, z32⟩ : Cp)) j, c.d.length = 32 := setsF_mem c3 j (fun i _ => rfl)
  have d3 : (setsF (iof m) a (fun _ => (⟨1, g, z32⟩ : Cp)) j).length = (iof m).length := setsF_len _ _ _ _
  have hm := imap_map d2 d1
  rw [d3, c2] at hm
  refine ⟨d1, mat_ext hm (mput_map h hx) fun k => ?_, d3⟩
  rw [mat_imap d2 d1, mat_mput h hx, setsF_at _ _ _ _ _ hfit]
  by_cases hk : a ≤ k ∧ k < a + j
  · rw [if_pos hk, if_pos (show xhas (zpx a j g) (k : Int) from ⟨by show (a : Int) ≤ k; omega, by show (k : Int) < (a : Int) + j; omega⟩)]
    have e : xone (zpx a j g) (k : Int) = oneX k ⟨1, g, z32⟩ := by
      unfold xone xpart zpx oneX
      have e1 : (k : Int) + 1 - k = 1 := by omega
      simp [e1]
    rw [e]
    rfl
  · have hn : ¬ xhas (zpx a j g) (k : Int) := by
      rintro ⟨h1, h2⟩
      have h1' : (a : Int) ≤ k := h1
      have h2' : (k : Int) < (a : Int) + j := h2
      omega
    rw [if_neg hk, if_neg hn, mat_iof r (Int.le_refl _) k (by omega)]
    rfl
end Go.Wag
