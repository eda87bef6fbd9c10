/-
  Texts that the walks lean on, one behind the other: LogPure3, LogFinds0, CrcLaid.
-/
import Derived.ProofKit
import Derived.LaidMore
import Derived.Stop.Joined
import Derived.Lib.LaidTab
import Derived.Test.YtnejiclghnigiaaDoorMergD
namespace Go.Proofs.YtnejiclghnigiaaDoor
open Go.RowKit Go.Wag
set_option linter.unusedVariables false
set_option maxRecDepth 20000

def rawR : Nat → List (List Rp) → List Fp
  | _, [] => []
  | i, rs :: rss => (laidAt 0 rs).map (fun x => ⟨x.1, (i : Int), (x.2 : Int)⟩) ++ rawR (i + 1) rss
theorem raw_lg : ∀ (zs : List Zp) (rss : List (List Rp)) (i : Nat), zs.map Zp.l = rss.map allB → (∀ rs ∈ rss, ∀ r ∈ rs, r.ok = true) → rawG i zs = rawR i rss
  | [], [], _, _, _ => rfl
  | [], _ :: _, _, h, _ => by simp at h
  | _ :: _, [], _, h, _ => by simp at h
  | z :: zs, rs :: rss, i, h, hok => by
    simp only [List.map_cons, List.cons.injEq] at h
    rw [rawG, rawR, raw_lg zs rss (i + 1) h.2 (fun x hx => hok x (List.mem_cons_of_mem _ hx)), zoneF, h.1, sc_recs (hok rs (List.mem_cons_self ..))]
theorem raw_set : ∀ (rss : List (List Rp)) (k i : Nat) (rs : List Rp) (r : Rp), rss[k]? = some rs → (rawR i (rss.set k (rs ++ [r]))).Perm (rawR i rss ++ [⟨r, ((i + k : Nat) : Int), ((allB rs).length : Int)⟩])
  | [], _, _, _, _, h => by simp at h
  | x :: rss, 0, i, rs, r, h => by
    simp only [List.getElem?_cons_zero, Option.some.injEq] at h
    subst h
    rw [List.set_cons_zero, rawR, rawR, laid_snoc, List.map_append, List.append_assoc, List.append_assoc]
    refine List.Perm.append_left _ ?_
    simp only [List.map_cons, List.map_nil, Nat.zero_add, Nat.add_zero]
    exact List.perm_append_comm
  | x :: rss, k + 1, i, rs, r, h => by
    rw [List.getElem?_cons_succ] at h
    have ih := raw_set rss k (i + 1) rs r h
    rw [List.set_cons_succ, rawR, rawR, List.append_assoc]
    refine List.Perm.append_left _ ?_
    rw [show i + (k + 1) = i + 1 + k by omega]
    exact ih
def mkF (x : Rp × (Int × Int)) : Fp := ⟨x.1, x.2.1, x.2.2⟩
theorem apS_lg (size : Int) : ∀ (rs : List Rp) (d : Dp) (rss : List (List Rp)), Lg size d rss → ∃ rss', Lg size (apS size d rs).1 rss' ∧ (rawR 0 rss').Perm (rawR 0 rss ++ (rs.zip (apS size d rs).2.1).map mkF) ∧ rss'.length = rss.length ∧ ((apS size d rs).2.2 ≠ 0 → ∃ zs r, r ∈ rs ∧ devF size zs = true ∧ pnEr size zs r = (apS size d rs).2.2)
  | [], d, rss, h => ⟨rss, h, by simp [apS], rfl, fun e => absurd rfl e⟩
  | r :: rs, d, rss, h => by
    rw [apS]
    by_cases he : pnEr size d.zs r = 0
    · rw [if_pos he]
      obtain ⟨d', k, rk, h1, h2, h3, h4, h5⟩ := ap_one h he
      rw [h1, if_pos rfl]
      obtain ⟨rss', k1, k2, k3, k4⟩ := apS_lg size rs d' _ h5
      refine ⟨rss', k1, ?_, by rw [k3, List.length_set], fun e => ?_⟩
      · refine k2.trans ?_
        refine ((raw_set rss k 0 rk r h3).append_right _).trans ?_
        rw [h2, h4, Nat.zero_add, List.zip_cons_cons, List.map_cons, List.append_assoc]
        exact List.Perm.refl _
      · obtain ⟨zs, x, hx, y1, y2⟩ := k4 e
        exact ⟨zs, x, List.mem_cons_of_mem _ hx, y1, y2⟩
    · rw [if_neg he]
      exact ⟨rss, h, by simp, rfl, fun _ => ⟨d.zs, r, List.mem_cons_self .., h.dev, rfl⟩⟩
theorem pnEr_small {size : Int} {zs : List Zp} {r : Rp} (hd : devF size zs = true) (hk : r.ok = true) (hl : ((recB r).length : Int) ≤ size) : pnEr size zs r = 0 ∨ pnEr size zs r = 60 := by
  have h1 : 1 ≤ ((recB r).length : Int) := by rw [recB_length]; omega
  rw [pnEr, if_pos hk, plEr, if_pos ⟨hd, h1, hl⟩]
  split
  · exact .inl rfl
  · split
    · exact .inr rfl
    · exact .inl rfl
theorem laid_read : ∀ (rs : List Rp) (p at_ : Nat) (r : Rp), (r, at_) ∈ laidAt p rs → p ≤ at_ ∧ ((allB rs).drop (at_ - p)).take (recB r).length = recB r ∧ at_ - p + (recB r).length ≤ (allB rs).length
  | [], _, _, _, h => by cases h
  | x :: rs, p, at_, r, h => by
    have hB : allB (x :: rs) = recB x ++ allB rs := by simp [allB]
    rw [laidAt] at h
    rcases List.mem_cons.1 h with e | h
    · cases e
      rw [Nat.sub_self, List.drop_zero, hB]
      exact ⟨Nat.le_refl _, by rw [List.take_append_of_le_length (Nat.le_refl _), List.take_length], by rw [List.length_append]; omega⟩
    · obtain ⟨h1, h2, h3⟩ := laid_read rs _ at_ r h
      refine ⟨by omega, ?_, ?_⟩
      · rw [hB, List.drop_append, List.drop_of_length_le (by omega), List.nil_append, show at_ - p - (recB x).length = at_ - (p + (recB x).length) by omega]
        exact h2
      · rw [hB, List.length_append]
        omega
theorem mem_rawR : ∀ (rss : List (List Rp)) (i : Nat) (f : Fp), f ∈ rawR i rss → ∃ (k : Nat) (rs : List Rp) (a : Nat), f.zn = ((i + k : Nat) : Int) ∧ rss[k]? = some rs ∧ f.at_ = (a : Int) ∧ (f.r, a) ∈ laidAt 0 rs
  | [], _, _, h => by cases h
  | rs :: rss, i, f, h => by
    rw [rawR] at h
    rcases List.mem_append.1 h with h | h
    · obtain ⟨x, hx, rfl⟩ := List.mem_map.1 h
      exact ⟨0, rs, x.2, rfl, rfl, rfl, hx⟩
    · obtain ⟨k, rk, a, h1, h2, h3, h4⟩ := mem_rawR rss (i + 1) f h
      exact ⟨k + 1, rk, a, by rw [h1]; congr 1; omega, h2, h3, h4⟩
/-- What a place that was told reads as. -/
theorem lg_read {size : Int} {d : Dp} {rss : List (List Rp)} {f : Fp} (h : Lg size d rss) (hf : f ∈ rawR 0 rss) : ∃ (k a : Nat), f.zn = (k : Int) ∧ f.at_ = (a : Int) ∧ k < d.zs.length ∧ rdOk size d.zs (k : Int) (a : Int) ((recB f.r).length : Int) = true ∧ rdF size d.zs (k : Int) (a : Int) ((recB f.r).length : Int) = recB f.r := by
  obtain ⟨k, rs, a, h1, h2, h3, h4⟩ := mem_rawR rss 0 f hf
  obtain ⟨_, h5, h6⟩ := laid_read rs 0 a f.r h4
  rw [Nat.sub_zero] at h5 h6
  have hd : (d.zs.map Zp.l)[k]? = some (allB rs) := by rw [h.data, List.getElem?_map, h2]; rfl
  rw [List.getElem?_map, Option.map_eq_some_iff] at hd
  obtain ⟨z, hz, hzl⟩ := hd
  have hk := (List.getElem?_eq_some_iff.1 hz).1
  refine ⟨k, a, by rw [h1, Nat.zero_add], h3, hk, ?_, ?_⟩
  · simp only [rdOk, h.dev, Bool.true_and, Bool.and_eq_true, decide_eq_true_eq, Int.toNat_natCast, hz, Option.elim_some, hzl]
    refine ⟨by omega, by omega⟩
  · simp only [rdF, Int.toNat_natCast, hz, Option.elim_some, hzl]
    rw [show ((a : Int) + ((recB f.r).length : Int)).toNat = a + (recB f.r).length by omega, List.drop_take, show a + (recB f.r).length - a = (recB f.r).length by omega]
    exact h5
theorem lg_new {size : Int} {n : Nat} (h : mayF n size = true) : Lg size ⟨-1, 0, false, List.replicate n zero4⟩ (List.replicate n []) := by
  refine ⟨?_, ?_, rfl, rfl, ?_, ?_⟩
  · rw [dev_parts]
    refine ⟨by simpa using h, fun z hz => ?_⟩
    rw [List.eq_of_mem_replicate hz]
    simp only [mayF, decide_eq_true_eq] at h
    simp [zchk, chkF, zero4]
    omega
  · have : openF (List.replicate n zero4) = 0 := by
      rw [openF, List.countP_eq_zero]
      intro z hz
      rw [List.eq_of_mem_replicate hz]
      decide
    show openF (List.replicate n zero4) ≤ 3
    omega
  · simp [zero4, allB]
  · intro rs hrs
    rw [List.eq_of_mem_replicate hrs]
    intro r hr
    cases hr
theorem raw_new : ∀ (n i : Nat), rawR i (List.replicate n []) = []
  | 0, _ => rfl
  | n + 1, i => by rw [List.replicate_succ, rawR, raw_new n (i + 1)]; rfl

/-! Runs. -/
theorem run_seq (xs : List Fp) : ∀ (g : Nat) (s : Int) (i : Nat) (r : Rp), (runN xs g s)[i]? = some r → r.s = s + i
  | 0, _, _, _, h => by simp [runN] at h
  | g + 1, s, i, r, h => by
    cases hid : idxS xs s with
    | none => rw [run_none hid] at h; simp at h
    | some j =>
      obtain ⟨x, hx, hs, _⟩ := idxS_some hid
      by_cases hm : s = 9223372036854775807
      · rw [run_last hid hx hm] at h
        cases i with
        | zero => simp at h; subst h; rw [hs]; simp
        | succ i => simp at h
      · rw [run_some hid hx hm] at h
        cases i with
        | zero => simp at h; subst h; rw [hs]; simp
        | succ i =>
          rw [List.getElem?_cons_succ] at h
          have := run_seq xs g (s + 1) i r h
          rw [this]
          omega
theorem idx_no {xs : List Fp} {s : Int} (h : idxS xs s = none) : ∀ x ∈ xs, x.r.s ≠ s := by
  intro x hx e
  unfold idxS at h
  rw [List.findIdx?_eq_none_iff] at h
  have := h x hx
  simp [e] at this
theorem run_stop (xs : List Fp) (hx : ∀ x ∈ xs, x.r.s < 9223372036854775807) : ∀ (g : Nat) (s : Int), leftN xs s < g → ∀ x ∈ xs, x.r.s ≠ s + (runN xs g s).length
  | 0, s, h => absurd h (by omega)
  | g + 1, s, h => by
    cases hid : idxS xs s with
    | none =>
      rw [run_none hid]
      intro x hxx
      simpa using idx_no hid x hxx
    | some j =>
      obtain ⟨y, hy, hs, _⟩ := idxS_some hid
      have hm : s ≠ 9223372036854775807 := by
        have := hx y (List.mem_of_getElem? hy)
        omega
      rw [run_some hid hy hm]
      have := run_stop xs hx g (s + 1) (by have := left_step hid; omega)
      intro x hxx
      have := this x hxx
      simp only [List.length_cons]
      omega
theorem run_from {Z : List Fp} (hz : ∀ (i : Nat) (f : Fp), Z[i]? = some f → f.r.s = (i : Int)) (hb : Z.length < 1000000) : ∀ (g k : Nat), Z.length < k + g → k ≤ Z.length → runN Z g (k : Int) = (Z.drop k).map (·.r)
  | 0, k, h, h2 => by omega
  | g + 1, k, h, h2 => by
    by_cases hk : k < Z.length
    · have hid : idxS Z (k : Int) = some k := by
        unfold idxS
        rw [List.findIdx?_eq_some_iff_getElem]
        refine ⟨hk, by simpa using hz k _ (List.getElem?_eq_getElem hk), fun j hj => ?_⟩
        have := hz j _ (List.getElem?_eq_getElem (by omega))
        simp [this]
        omega
      rw [run_some hid (List.getElem?_eq_getElem hk) (by omega), show (k : Int) + 1 = ((k + 1 : Nat) : Int) by omega, run_from hz hb g (k + 1) (by omega) (by omega), List.drop_eq_getElem_cons hk]
      rfl
    · have hid : idxS Z (k : Int) = none := by
        unfold idxS
        rw [List.findIdx?_eq_none_iff]
        intro f hf
        obtain ⟨j, hj, rfl⟩ := List.mem_iff_getElem.1 hf
        have := hz j _ (List.getElem?_eq_getElem hj)
        simp [this]
        omega
      rw [run_none hid, List.drop_of_length_le (by omega)]
      rfl
theorem run_from0 {Z : List Fp} (hz : ∀ (i : Nat) (f : Fp), Z[i]? = some f → f.r.s = (i : Int)) (hb : Z.length < 1000000) : runF Z 0 = Z.map (·.r) := by
  have := run_from hz hb (Z.length + 1) 0 (by omega) (by omega)
  rw [List.drop_zero] at this
  exact this
theorem run_mem (xs : List Fp) : ∀ (g : Nat) (s : Int), ∀ r ∈ runN xs g s, ∃ x ∈ xs, x.r = r
  | 0, _, r, h => by simp [runN] at h
  | g + 1, s, r, h => by
    cases hid : idxS xs s with
    | none => rw [run_none hid] at h; cases h
    | some j =>
      obtain ⟨x, hx, hs, _⟩ := idxS_some hid
      have hm := List.mem_of_getElem? hx
      by_cases hmx : s = 9223372036854775807
      · rw [run_last hid hx hmx] at h
        simp only [List.mem_singleton] at h
        exact ⟨x, hm, h.symm⟩
      · rw [run_some hid hx hmx] at h
        rcases List.mem_cons.1 h with h | h
        · exact ⟨x, hm, h.symm⟩
        · exact run_mem xs g (s + 1) r h
end Go.Proofs.YtnejiclghnigiaaDoor
namespace Go.Proofs.YtnejiclghnigiaaDoor
open Go.RowKit Go.Wag
set_option linter.unusedVariables false
set_option maxRecDepth 20000

def selS (acc : List Rp) (r : Rp) : List Rp := if decide (r.l.length ≤ 60) && r.ok then acc ++ [⟨r.k, (acc.length : Int), r.l⟩] else acc
def selF (ls : List Rp) : List Rp := ls.foldl selS []
theorem selF_snoc (ls : List Rp) (r : Rp) : selF (ls ++ [r]) = selS (selF ls) r := by simp [selF]
def SelOk (m : Nat) (ss : List Rp) : Prop := ss.length ≤ m ∧ ∀ (i : Nat) (r : Rp), ss[i]? = some r → r.s = (i : Int) ∧ r.l.length ≤ 60 ∧ r.ok = true
theorem selS_ok {m : Nat} {ss : List Rp} {r : Rp} (h : SelOk m ss) (hm : m ≤ 1000) : SelOk (m + 1) (selS ss r) := by
  rw [selS]
  split
  · rename_i hc
    rw [Bool.and_eq_true, decide_eq_true_eq] at hc
    refine ⟨by simp; exact h.1, fun i x hx => ?_⟩
    by_cases hi : i < ss.length
    · rw [List.getElem?_append_left hi] at hx
      exact h.2 i x hx
    · have hi2 := (List.getElem?_eq_some_iff.1 hx).1
      simp at hi2
      obtain rfl : i = ss.length := by omega
      rw [List.getElem?_append_right (Nat.le_refl _), Nat.sub_self] at hx
      cases hx
      refine ⟨rfl, hc.1, ?_⟩
      have ho := Rp.all hc.2
      have := h.1
      simp only [Rp.ok, rchk, decide_eq_true_eq]
      omega
  · exact ⟨by have := h.1; omega, h.2⟩
theorem selS_all : ∀ (ls acc : List Rp) (m : Nat), SelOk m acc → m + ls.length ≤ 1000 → SelOk (m + ls.length) (ls.foldl selS acc)
  | [], acc, m, h, _ => h
  | r :: ls, acc, m, h, hl => by
    simp only [List.length_cons] at hl
    have := selS_all ls (selS acc r) (m + 1) (selS_ok h (by omega)) (by omega)
    rw [List.foldl_cons, List.length_cons, show m + (ls.length + 1) = m + 1 + ls.length by omega]
    exact this
theorem selF_ok (ls : List Rp) (h : ls.length ≤ 1000) : SelOk ls.length (selF ls) := by
  have := selS_all ls [] 0 ⟨Nat.le_refl _, fun i r h => by simp at h⟩ (by omega)
  rw [Nat.zero_add] at this
  exact this

/-- What is told of records that were appended to a new device. -/
structure Fnd (zx : List Zp) (ss : List Rp) (pl : List (Int × Int)) (Z : List Fp) : Prop where
  all : allF zx = Z
  raw : (rawG 0 zx).length ≤ 20
  len : Z.length = ss.length
  at_ : ∀ (i : Nat) (r : Rp), ss[i]? = some r → ∃ (k a : Nat), pl[i]? = some ((k : Int), (a : Int)) ∧ Z[i]? = some ⟨r, (k : Int), (a : Int)⟩ ∧ k ≤ 64 ∧ a ≤ 300 ∧ rdOk 300 zx (k : Int) (a : Int) ((recB r).length : Int) = true ∧ rdF 300 zx (k : Int) (a : Int) ((recB r).length : Int) = recB r
  run : runF Z 0 = ss
theorem finds {ss : List Rp} (h : SelOk 20 ss) : ∀ y, y = apS 300 ⟨-1, 0, false, List.replicate 12 zero4⟩ ss →
    devF 300 y.1.zs = true ∧ y.2.1.length ≤ ss.length ∧ (rawG 0 y.1.zs).length ≤ 20 ∧ (y.2.2 = 0 ∨ y.2.2 = 60) ∧ (y.2.2 = 0 → y.2.1.length = ss.length ∧ ∃ Z, Fnd y.1.zs ss y.2.1 Z) := by
  rintro y rfl
  have hLg0 := lg_new (size := 300) (n := 12) (by decide)
  obtain ⟨rss, hLg, hPm, _, hE⟩ := apS_lg 300 ss _ _ hLg0
  obtain ⟨_, k2, k3, k4, k5⟩ := apS_keep 300 ss ⟨-1, 0, false, List.replicate 12 zero4⟩ ⟨hLg0.dev, show (-1 : Int) < 9223372036854775808 by decide⟩
  rw [raw_new, List.nil_append] at hPm
  generalize apS 300 ⟨-1, 0, false, List.replicate 12 zero4⟩ ss = y at *
  have hraw := raw_lg y.1.zs rss 0 hLg.data hLg.ok
  have hrl : (rawG 0 y.1.zs).length ≤ 20 := by
    rw [hraw, hPm.length_eq, List.length_map, List.length_zip]
    have := h.1
    omega
  refine ⟨k2, k4, hrl, ?_, fun he => ⟨k5 he, ?_⟩⟩
  · by_cases he : y.2.2 = 0
    · exact .inl he
    · obtain ⟨zs, r, hr, hd, hp⟩ := hE he
      obtain ⟨i, hi, rfl⟩ := List.mem_iff_getElem.1 hr
      obtain ⟨_, h2, h3⟩ := h.2 i _ (List.getElem?_eq_getElem hi)
      rw [← hp]
      exact pnEr_small hd h3 (by rw [recB_length]; omega)
  · have hl := k5 he
    obtain ⟨Z, hZ⟩ : ∃ Z, Z = (ss.zip y.2.1).map mkF := ⟨_, rfl⟩
    rw [← hZ] at hPm
    have hZl : Z.length = ss.length := by rw [hZ, List.length_map, List.length_zip]; omega
    have hZat : ∀ (i : Nat) (r : Rp), ss[i]? = some r → ∃ p, y.2.1[i]? = some p ∧ Z[i]? = some ⟨r, p.1, p.2⟩ := fun i r hr => by
      have hi := (List.getElem?_eq_some_iff.1 hr).1
      obtain ⟨p, hp⟩ : ∃ p, y.2.1[i]? = some p := ⟨_, List.getElem?_eq_getElem (by omega)⟩
      refine ⟨p, hp, ?_⟩
      have hzp : (ss.zip y.2.1)[i]? = some (r, p) := List.getElem?_zip_eq_some.2 ⟨hr, hp⟩
      rw [hZ, List.getElem?_map, hzp]
      rfl
    have hZs : ∀ (i : Nat) (f : Fp), Z[i]? = some f → f.r.s = (i : Int) ∧ ss[i]? = some f.r := fun i f hf => by
      have hi := (List.getElem?_eq_some_iff.1 hf).1
      obtain ⟨p, _, h2⟩ := hZat i _ (List.getElem?_eq_getElem (show i < ss.length by omega))
      rw [hf] at h2
      cases h2
      exact ⟨(h.2 i _ (List.getElem?_eq_getElem (by omega))).1, List.getElem?_eq_getElem (by omega)⟩
    have hall : allF y.1.zs = Z := by
      rw [allF, hraw]
      refine sortK_eq seqK hPm.symm ?_
      rw [List.pairwise_iff_getElem]
      intro i j hi hj hij
      have h1 := (hZs i _ (List.getElem?_eq_getElem hi)).1
      have h2 := (hZs j _ (List.getElem?_eq_getElem hj)).1
      show Z[i].r.s < Z[j].r.s
      omega
    refine ⟨Z, hall, hrl, hZl, fun i r hr => ?_, ?_⟩
    · obtain ⟨p, h1, h2⟩ := hZat i r hr
      obtain ⟨k, a, e1, e2, hk, h4, h5⟩ := lg_read hLg (hPm.mem_iff.2 (List.mem_of_getElem? h2))
      dsimp only at e1 e2 h4 h5
      have hk64 : k ≤ 64 := by
        have := (dev_parts.1 k2).1
        simp only [mayF, decide_eq_true_eq] at this
        omega
      have ha : a ≤ 300 := by
        have hz := List.getElem?_eq_getElem hk
        have hc := (chk_all ((dev_parts.1 k2).2 _ (List.mem_of_getElem? hz))).2.2.2.2.2.2.1
        simp only [rdOk, Bool.and_eq_true, decide_eq_true_eq, Int.toNat_natCast, hz, Option.elim_some] at h4
        have := h4.2
        omega
      refine ⟨k, a, ?_, ?_, hk64, ha, h4, h5⟩
      · rw [h1, ← e1, ← e2]
      · rw [h2, ← e1, ← e2]
    · rw [run_from0 (fun i f hf => (hZs i f hf).1) (by have := h.1; omega)]
      refine List.ext_getElem? (fun i => ?_)
      rw [List.getElem?_map]
      by_cases hi : i < Z.length
      · have := (hZs i _ (List.getElem?_eq_getElem hi)).2
        rw [List.getElem?_eq_getElem hi, this]
        rfl
      · rw [List.getElem?_eq_none (by omega), List.getElem?_eq_none (by omega)]
        rfl
end Go.Proofs.YtnejiclghnigiaaDoor
namespace Go.Proofs.YtnejiclghnigiaaDoor
open Go.RowKit Go.Wag

theorem gTab : Tryd.prog.globalNamed "waggoner/crc.fourSteps" = some 0 := by kernel_rfl
theorem gTabT : (Tryd.prog.globals[0]?).map (·.type) = some 126 := by kernel_rfl
theorem tab_of_laid {W : World} (h : laidMetH Tryd.prog [("waggoner/crc.fourSteps", Rows.laid_waggoner_crc_fourSteps)] W) : Tab W := by
  rw [MakeChecks.laidMetH_plain _ _ _ (by kernel_rfl)] at h
  have hT : Lib.TabIs Tryd.prog W "waggoner/crc.fourSteps" .u32 tab16 :=
    Lib.tabIs_of_head (rest := []) gTab gTabT Tryd.underlying126 Tryd.underlying110 (by kernel_rfl) (by kernel_rfl) h
  intro i hi
  exact hT.cell gTab i hi
theorem door_met (os : Os) (args : Array Value) : laidMetH Tryd.prog [("waggoner/crc.fourSteps", Rows.laid_waggoner_crc_fourSteps)] ((World.doorLaid Tryd.prog 400 os).forCall (fun _ _ => 0) ⟨#[], args, []⟩).memory :=
  laidMetH_of_parts3 (fuel := 8) (laidMet_of_run' 8 (by kernel_rfl) (by kernel_rfl)) (by kernel_rfl) (by kernel_rfl)
end Go.Proofs.YtnejiclghnigiaaDoor
