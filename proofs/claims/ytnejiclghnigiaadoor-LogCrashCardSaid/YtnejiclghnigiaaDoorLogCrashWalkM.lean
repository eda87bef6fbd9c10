/-
  LogCrash: the walk (written by gen_logcrash.py).
-/
import Derived.Test.YtnejiclghnigiaaDoorMergD
import Derived.Deep.CutRange
namespace Go.Proofs.YtnejiclghnigiaaDoor
open Go.RowKit Go.Wag
set_option linter.unusedVariables false
set_option maxRecDepth 20000

/-- 's[:m]' as one value. -/
theorem run_cut0 {P : Program} (t : TypeId) (e : TypeId) (ht : P.underlying t = some (.slice (P.elem t))) (he : P.elem t = e) (hsz : (P.info? e).map (·.size) = some 1) (A : Option Addr) (n c : Nat) (kh : IntKind) (M : Int) (m : Nat) (hM : M = m) (hm : m ≤ c) (w : World) :
    (Instr.slice t (.slice A n c) none (some (.int kh M)) none).run P w = .ok (.slice A m c) w := by
  subst hM he
  obtain ⟨i, hi, hs⟩ := Option.map_eq_some_iff.1 hsz
  rw [run_slice_h w t A n c ht kh m (by omega) (by omega)]
  cases A with
  | none => simp [sizeOf, typeInfo, hi, hs, sliced]
  | some ad =>
    have : ad.add 0 = ad := by unfold Addr.add; split <;> simp_all
    simp [sizeOf, typeInfo, hi, hs, sliced, this]
theorem cnt_small (P : Fp → Bool) (Z : List Fp) (j : Nat) : cntF P Z j ≤ j := by
  rw [cntF]
  have h1 := (List.filter_sublist (p := P) (l := Z.take j)).length_le
  rw [List.length_take] at h1
  omega
theorem cf_of {a b : Nat} {d : Dp} {Fs : List Fp} (h : a = b) (k : Cf a d Fs) : Cf b d Fs := h ▸ k
/-- The records that are appended. -/
def crR (as_ bs : List Rp) : List Rp := (as_ ++ bs).mapIdx fun i r => ⟨2, (i : Int), r.l.take 60⟩
theorem crR_num {as_ bs : List Rp} (h : as_.length + bs.length ≤ 20) : NumL (crR as_ bs) := by
  refine ⟨by simpa [crR] using h, fun i r hr => ?_⟩
  rw [crR, List.getElem?_mapIdx, Option.map_eq_some_iff] at hr
  obtain ⟨x, hx, rfl⟩ := hr
  have hi := (List.getElem?_eq_some_iff.1 hx).1
  rw [List.length_append] at hi
  refine ⟨rfl, by simp only [List.length_take]; omega, ?_⟩
  simp only [Rp.ok, rchk, List.length_take, decide_eq_true_eq]
  omega

set_option maxHeartbeats 16000000 in
theorem LogCrash_core (A : Option Addr) (na ca : Nat) (as_ : List Rp) (B : Option Addr) (nb cb : Nat) (bs : List Rp) (K : Option Addr) (nk ck : Nat) (ks : List Int) (w : World) (hT : Tab w) (ha : Rs recE (fun b => b < w.heap.size) w A na ca as_) (hb : Rs recE (fun b => b < w.heap.size) w B nb cb bs) (hk : Sl w K nk ck (ks.map iv)) (hf : fits ks) :
    Calls Tryd.prog 7 #[.slice A na ca, .slice B nb cb, .slice K nk ck] w (AwakePost w) := by
  have q1 := ha.cap
  have q2 := ha.big
  have q3 := hb.cap
  have q4 := hb.big
  have q5 := hk.cap
  have q6 := hk.big
  go_enter Tryd.func7, Tryd.ntmps7
  go_wp2_with fail
  refine (awake6_any w hT).mono ?_
  rintro e w1 ⟨rfl, b1⟩
  go_wp2_with fail
  have hC := lbodies_any A na ca as_ w1 (ha.below b1)
  cases hba : bodF as_ with
  | false =>
    rw [hba] at hC
    refine hC.mono ?_
    rintro e w2 ⟨rfl, rfl⟩
    go_wp2
    go_ret
    exact ⟨rfl, b1⟩
  | true =>
    rw [hba] at hC
    refine hC.mono ?_
    clear hC
    rintro e w2 ⟨rfl, rfl⟩
    go_wp2_with fail
    have hC := lbodies_any B nb cb bs w1 (hb.below b1)
    cases hbb : bodF bs with
    | false =>
      rw [hbb] at hC
      refine hC.mono ?_
      rintro e w2 ⟨rfl, rfl⟩
      go_wp2
      go_ret
      exact ⟨rfl, b1⟩
    | true =>
      rw [hbb] at hC
      refine hC.mono ?_
      clear hC
      rintro e w2 ⟨rfl, rfl⟩
      by_cases g1 : (10 : Int) < (na : Int)
      · go_wp2
        go_ret
        exact ⟨rfl, b1⟩
      by_cases g2 : (10 : Int) < (nb : Int)
      · go_wp2
        go_ret
        exact ⟨rfl, b1⟩
      by_cases g3 : (100 : Int) < (nk : Int)
      · go_wp2
        go_ret
        exact ⟨rfl, b1⟩
      have hla := ha.len
      have hlb := hb.len
      obtain ⟨rs, hrs⟩ : ∃ x, x = crR as_ bs := ⟨_, rfl⟩
      have hrl : rs.length = na + nb := by rw [hrs]; simp [crR, hla, hlb]
      have hN : Aside (NumL rs) := by
        show NumL rs
        rw [hrs]
        exact crR_num (by omega)
      have hat1 : ∀ (k : Nat) (x : Rp), k < na → as_[k]? = some x → rs[k]? = some ⟨2, (k : Int), x.l.take 60⟩ := fun k x hk hx => by
        rw [hrs, crR, List.getElem?_mapIdx, List.getElem?_append_left (by omega), hx]
        rfl
      have hat2 : ∀ (q : Nat) (x : Rp), bs[q]? = some x → rs[na + q]? = some ⟨2, ((na + q : Nat) : Int), x.l.take 60⟩ := fun q x hx => by
        rw [hrs, crR, List.getElem?_mapIdx, List.getElem?_append_right (by omega), show na + q - as_.length = q by omega, hx]
        rfl
      replace hrl := Lib.hid hrl
      clear hrs hba hbb hla hlb
      go_wp2_with fail
      refine (dNew_at 12 300 (List.replicate 12 zero4) 12 w1 (by decide) rfl rfl (by decide)).mono ?_
      rintro e w2 ⟨Ad, rfl, Zd, b2⟩
      have bb := b1.trans (b2.mono b1.size)
      have al := (Below.refl w2.heap.size w2).alloc (Nat.le_refl _) (.cells #[.int .i64 300, .slice Ad 12 12, .int .i64 (-1), .bool false, .int .i64 0] 36)
      have Bd := Blk.new w2 #[.int .i64 300, .slice Ad 12 12, .int .i64 (-1), .bool false, .int .i64 0] 36
      replace Zd := (Zd.imp (F' := fun b => b ≠ w2.heap.size) (fun b hb _ => by omega)).below al
      replace bb := bb.trans (al.mono bb.size)
      have hkd : w.heap.size ≤ w2.heap.size := Nat.le_trans b1.size b2.size
      have hCr0 : Aside (Cr rs 0 ⟨-1, 0, false, List.replicate 12 zero4⟩ (List.replicate 12 []) []) := cr_new rs
      have hCf0 : Aside (na < 0 → Cf na ⟨-1, 0, false, List.replicate 12 zero4⟩ []) := fun h => absurd h (by omega)
      go_wp2_with fail
      generalize w2.alloc (.cells #[.int .i64 300, .slice Ad 12 12, .int .i64 (-1), .bool false, .int .i64 0] 36) = w3 at *
      generalize w2.heap.size = kd at *
      clear b1 b2 al
      go_loopg [10, 11] (na + nb) (fun g sv iv wr => ∃ (k : Nat) (Ad : Option Addr) (d : Dp) (rss : List (List Rp)) (Fs : List Fp), k + g = na + nb ∧ sv = .int .i64 (k : Int) ∧ iv = .int .i64 (k : Int) ∧ Aside (Cr rs k d rss Fs) ∧ Aside (na < k → Cf na d Fs) ∧ Blk wr kd #[.int .i64 300, .slice Ad 12 12, .int .i64 d.lf, .bool d.dw, .int .i64 d.dn] 36 ∧ Zs (fun b => b ≠ kd) wr Ad 12 12 d.zs ∧ Below w.heap.size w wr)
      case atStart => exact ⟨0, Ad, _, _, _, by omega, rfl, rfl, hCr0, hCf0, Bd, Zd, bb⟩
      case round =>
        clear hCr0 hCf0 Bd Zd bb
        obtain ⟨k, Ad, d, rss, Fs, hkg, rfl, rfl, hCr, hCf, Bd, Zd, bb⟩ := hrel
        by_cases hlt : (k : Int) < (na : Int) + (nb : Int)
        · obtain ⟨g, rfl⟩ : ∃ g, gk = g + 1 := ⟨gk - 1, by omega⟩
          go_upto_if 67 with (fail)
          go_cut [] from 55 to 132 (fun wc => ∃ (Ad : Option Addr) (d : Dp) (rss : List (List Rp)) (Fs : List Fp), Aside (Cr rs k d rss Fs) ∧ Aside (na ≤ k → Cf na d Fs) ∧ Blk wc kd #[.int .i64 300, .slice Ad 12 12, .int .i64 d.lf, .bool d.dw, .int .i64 d.dn] 36 ∧ Zs (fun b => b ≠ kd) wc Ad 12 12 d.zs ∧ Below w.heap.size w wc)
          case first => as_aux_lemma =>
            by_cases hc : k = na
            · have hki : ((k : Int) == (na : Int)) = true := by rw [hc]; simp
              replace hc := Lib.hid hc
              clear hCf
              obtain ⟨hfe, hCr2, hCf2⟩ := cr_flush hCr.out
              obtain ⟨y, hy⟩ : ∃ y, Hid (doS 300 d ⟨5, 0, []⟩ = y) := ⟨_, rfl⟩
              rw [hy.out] at hCr2 hCf2
              have hlf : Hid (d.lf = -1) := hCr.out.lg.lf
              have hdev := hCr.out.lg.dev
              have hfe' : Hid (doE 300 d ⟨5, 0, []⟩ = 0) := hfe
              obtain ⟨p0, p1, p2, p3, p4, _⟩ := Bd.five
              clear hfe
              go_wp2_with fail
              refine (dDo_at 300 d.lf d.dn d.dw Ad 12 12 d.zs 5 0 none 0 0 [] y.lf y.dn y.dw y.zs 0 wr Zd (sm_dev hdev) (Sl.nil _) (by omega) (by rw [hlf.out]; decide) (by rw [← hy.out]; rfl) (by rw [← hy.out]; rfl) (by rw [← hy.out]; rfl) (by rw [← hy.out]; rfl) (by rw [← hfe'.out]; rfl)).mono ?_
              rintro e w8 ⟨Ay, rfl, Zy, b8⟩
              have hkl := Bd.lt
              have hb8 := b8.size
              have al := (Below.refl w8.heap.size w8).alloc (Nat.le_refl _) (.cells #[.int .i64 300, .slice Ay 12 12, .int .i64 y.lf, .bool y.dw, .int .i64 y.dn] 36)
              replace Bd := (Bd.under b8).under al
              replace Zy := (Zy.imp (F' := fun b => b ≠ kd) (fun b _ hb => by omega)).below al
              replace bb := (bb.trans (b8.mono bb.size)).trans (al.mono (Nat.le_trans bb.size b8.size))
              have By := Blk.new w8 #[.int .i64 300, .slice Ay 12 12, .int .i64 y.lf, .bool y.dw, .int .i64 y.dn] 36
              obtain ⟨x0, x1, x2, x3, x4, _⟩ := By.five
              clear p0 p1 p2 p3 p4
              obtain ⟨p0, p1, p2, p3, p4, f0, f1, f2, f3, f4⟩ := Bd.five
              go_upto_region 11 with (fail)
              generalize w8.alloc (.cells #[.int .i64 300, .slice Ay 12 12, .int .i64 y.lf, .bool y.dw, .int .i64 y.dn] 36) = w9 at *
              have B9 := (((((Bd.set 0 (.int .i64 300)).set 1 (.slice Ay 12 12)).set 2 (.int .i64 y.lf)).set 3 (.bool y.dw)).set 4 (.int .i64 y.dn))
              simp only [List.setIfInBounds_toArray, List.set_cons_zero, List.set_cons_succ] at B9
              have nk : ¬ (kd ≠ kd) := fun h => h rfl
              have Z9 := (((((Zy.far (a := ⟨kd, 0, none⟩) nk (.int .i64 300)).far (a := ⟨kd, 1, none⟩) nk (.slice Ay 12 12)).far (a := ⟨kd, 2, none⟩) nk (.int .i64 y.lf)).far (a := ⟨kd, 3, none⟩) nk (.bool y.dw)).far (a := ⟨kd, 4, none⟩) nk (.int .i64 y.dn))
              have b9 := (((((bb.setCell (p := ⟨kd, 0, none⟩) hkd (.int .i64 300)).setCell (p := ⟨kd, 1, none⟩) hkd (.slice Ay 12 12)).setCell (p := ⟨kd, 2, none⟩) hkd (.int .i64 y.lf)).setCell (p := ⟨kd, 3, none⟩) hkd (.bool y.dw)).setCell (p := ⟨kd, 4, none⟩) hkd (.int .i64 y.dn))
              clear Bd Zy bb
              go_wp2_with fail
              go_meet
              case rel => exact ⟨Ay, y, rss, Fs, hCr2, fun _ => cf_of hc.out hCf2, B9, Z9, b9⟩
            · have hki : ((k : Int) == (na : Int)) = false := by simp; omega
              replace hc := Lib.hid hc
              go_wp2_with fail
              go_meet
              case rel => exact ⟨Ad, d, rss, Fs, hCr, fun h => hCf.out (by have := hc.out; omega), Bd, Zd, bb⟩
          case rest => as_aux_lemma =>
            clear hCr hCf Bd Zd bb
            obtain ⟨Ad, d, rss, Fs, hCr, hCf, Bd, Zd, bb⟩ := hcut
            obtain ⟨wb, hwb⟩ : ∃ x, x = wc := ⟨_, rfl⟩
            subst hwb
            go_upto_if 80 with (fail)
            have al := (Below.refl wb.heap.size wb).alloc (Nat.le_refl _) (.cells #[.int .i64 2, .int .i64 (k : Int), .slice none 0 0] 26)
            have Bm := Blk.new wb #[.int .i64 2, .int .i64 (k : Int), .slice none 0 0] 26
            generalize wb.alloc (.cells #[.int .i64 2, .int .i64 (k : Int), .slice none 0 0] 26) = w5 at *
            go_cut [] from 55 to 132 (fun wc => ∃ (Ae : Option Addr) (mm ce : Nat) (r : Rp), rs[k]? = some r ∧ r.k = 2 ∧ r.s = (k : Int) ∧ r.l.length = mm ∧ Blk wc wb.heap.size #[.int .i64 2, .int .i64 (k : Int), .slice Ae mm ce] 26 ∧ Sl wc Ae mm ce (r.l.map v8) ∧ Below wb.heap.size wb wc)
            case first => as_aux_lemma =>
              by_cases hci : (k : Int) < (na : Int)
              · as_aux_lemma =>
                  obtain ⟨ge, oe, x, Ae, ce, rfl, -, hge, hx, e0', e1', e2', hS, -⟩ := Rs.rec_at ha (show k < na by omega)
                  have hrk := hat1 k x (by omega) hx
                  clear e0' e1' hx
                  obtain ⟨mm, hmin⟩ : ∃ m : Nat, Hid ((if (60 : Int) < (x.l.length : Int) then (60 : Int) else (x.l.length : Int)) = (m : Int)) := ⟨min x.l.length 60, by show _ = _; split <;> omega⟩
                  have hmm : mm ≤ x.l.length ∧ mm ≤ 60 := by
                    have := hmin.out
                    split at this <;> omega
                  have hmt : x.l.take 60 = x.l.take mm := by
                    have := hmin.out
                    split at this
                    · congr 1; omega
                    · rw [List.take_of_length_le (by omega), List.take_of_length_le (by omega)]
                  rw [hmt] at hrk
                  have hrl2 : (x.l.take mm).length = mm := by rw [List.length_take]; omega
                  have hmc : mm ≤ ce := Nat.le_trans hmm.1 hS.cap
                  have hmg := hS.big
                  have hcut := fun V => run_cut0 (P := Tryd.prog) 24 5 un22 el22 sz5 Ae x.l.length ce .i64 (mm : Int) mm rfl hmc V
                  have hge2 := Nat.lt_of_lt_of_le hge bb.size
                  have e2 := (bb.cell (p := ⟨ge, oe + k * 3 + 2, none⟩) hge).trans e2'
                  clear e2' hmt
                  go_wp2_with fail
                  refine wp_region_held_drew (S := fun w' => Below wb.heap.size wb w') (by kernel_rfl) al.drew (fun hHeld => ?_)
                  try dsimp only at hHeld
                  have bd : Below wb.heap.size wb w5.drew := al.drew
                  replace Bm := Bm.under (Below.refl w5.heap.size w5).drew
                  generalize w5.drew = wd at *
                  try simp only [Act.put, List.setIfInBounds_toArray, List.set_cons_zero, List.set_cons_succ]
                  refine wpAnyH_take (i := 0) (v := ?_) (by simp only [List.getElem?_toArray, List.getElem?_cons_zero]; rfl) (by kernel_rfl) (by kernel_rfl) (by kernel_rfl) (by intro _ _ _ h; exact h) (Or.inl ⟨by rfl, ?_⟩) hHeld ?_
                  rotate_left 1
                  · intro wq hSw
                    try dsimp only at hSw
                    go_simp
                    try (with_reducible rfl)
                  try simp only [Act.put, List.setIfInBounds_toArray, List.set_cons_zero, List.set_cons_succ]
                  refine wpAnyH_take (i := 1) (v := ?_) (by simp only [List.getElem?_toArray, List.getElem?_cons_succ, List.getElem?_cons_zero]; rfl) (by kernel_rfl) (by kernel_rfl) (by kernel_rfl) (by intro _ _ _ h; exact h) (Or.inl ⟨by rfl, ?_⟩) hHeld ?_
                  rotate_left 1
                  · intro wq hSw
                    try dsimp only at hSw
                    go_simp
                    try (with_reducible rfl)
                  try simp only [Act.put, List.setIfInBounds_toArray, List.set_cons_zero, List.set_cons_succ]
                  refine wpAnyH_take (i := 2) (v := .pointer (some ⟨ge, oe + k * 3, none⟩)) (by simp only [List.getElem?_toArray, List.getElem?_cons_succ, List.getElem?_cons_zero]; rfl) (by kernel_rfl) (by kernel_rfl) (by kernel_rfl) (by intro _ _ _ h; exact h) (Or.inl ⟨by rfl, ?_⟩) hHeld ?_
                  · intro wq hSw
                    try dsimp only at hSw
                    go_simp
                    all_goals (first | (with_reducible rfl) | (intro hh; exfalso; omega))
                  try simp only [Act.put, List.setIfInBounds_toArray, List.set_cons_zero, List.set_cons_succ]
                  refine wpAnyH_take (i := 3) (v := ?_) (by simp only [List.getElem?_toArray, List.getElem?_cons_succ, List.getElem?_cons_zero]; rfl) (by kernel_rfl) (by kernel_rfl) (by kernel_rfl) (by intro _ _ _ h; exact h) (Or.inl ⟨by rfl, ?_⟩) hHeld ?_
                  rotate_left 1
                  · intro wq hSw
                    try dsimp only at hSw
                    go_simp
                    try (with_reducible rfl)
                  try simp only [Act.put, List.setIfInBounds_toArray, List.set_cons_zero, List.set_cons_succ]
                  refine wpAnyH_take (i := 4) (v := ?_) (by simp only [List.getElem?_toArray, List.getElem?_cons_succ, List.getElem?_cons_zero]; rfl) (by kernel_rfl) (by kernel_rfl) (by kernel_rfl) (by intro _ _ _ h; exact h) (Or.inl ⟨by rfl, ?_⟩) hHeld ?_
                  rotate_left 1
                  · intro wq hSw
                    try dsimp only at hSw
                    have x2 := (hSw.cell hge2).trans e2
                    go_simp
                    try (with_reducible rfl)
                  try simp only [Act.put, List.setIfInBounds_toArray, List.set_cons_zero, List.set_cons_succ]
                  refine wpAnyH_take (i := 5) (v := ?_) (by simp only [List.getElem?_toArray, List.getElem?_cons_succ, List.getElem?_cons_zero]; rfl) (by kernel_rfl) (by kernel_rfl) (by kernel_rfl) (by intro _ _ _ h; exact h) (Or.inl ⟨by rfl, ?_⟩) hHeld ?_
                  rotate_left 1
                  · intro wq hSw
                    try dsimp only at hSw
                    go_simp
                    try (with_reducible rfl)
                  try simp only [Act.put, List.setIfInBounds_toArray, List.set_cons_zero, List.set_cons_succ]
                  refine wpAnyH_take (i := 6) (v := ?_) (by simp only [List.getElem?_toArray, List.getElem?_cons_succ, List.getElem?_cons_zero]; rfl) (by kernel_rfl) (by kernel_rfl) (by kernel_rfl) (by intro _ _ _ h; exact h) (Or.inl ⟨by rfl, ?_⟩) hHeld ?_
                  rotate_left 1
                  · intro wq hSw
                    try dsimp only at hSw
                    go_simp
                    try (with_reducible rfl)
                  try simp only [Act.put, List.setIfInBounds_toArray, List.set_cons_zero, List.set_cons_succ]
                  refine wpAnyH_take (i := 7) (v := .pointer (some ⟨ge, oe + k * 3, none⟩)) (by simp only [List.getElem?_toArray, List.getElem?_cons_succ, List.getElem?_cons_zero]; rfl) (by kernel_rfl) (by kernel_rfl) (by kernel_rfl) (by intro _ _ _ h; exact h) (Or.inl ⟨by rfl, ?_⟩) hHeld ?_
                  · intro wq hSw
                    try dsimp only at hSw
                    go_simp
                    all_goals (first | (with_reducible rfl) | (intro hh; exfalso; omega))
                  try simp only [Act.put, List.setIfInBounds_toArray, List.set_cons_zero, List.set_cons_succ]
                  refine wpAnyH_take (i := 8) (v := ?_) (by simp only [List.getElem?_toArray, List.getElem?_cons_succ, List.getElem?_cons_zero]; rfl) (by kernel_rfl) (by kernel_rfl) (by kernel_rfl) (by intro _ _ _ h; exact h) (Or.inl ⟨by rfl, ?_⟩) hHeld ?_
                  rotate_left 1
                  · intro wq hSw
                    try dsimp only at hSw
                    go_simp
                    try (with_reducible rfl)
                  try simp only [Act.put, List.setIfInBounds_toArray, List.set_cons_zero, List.set_cons_succ]
                  refine wpAnyH_take (i := 9) (v := ?_) (by simp only [List.getElem?_toArray, List.getElem?_cons_succ, List.getElem?_cons_zero]; rfl) (by kernel_rfl) (by kernel_rfl) (by kernel_rfl) (by intro _ _ _ h; exact h) (Or.inl ⟨by rfl, ?_⟩) hHeld ?_
                  rotate_left 1
                  · intro wq hSw
                    try dsimp only at hSw
                    have x2 := (hSw.cell hge2).trans e2
                    go_simp
                    try (with_reducible rfl)
                  try simp only [Act.put, List.setIfInBounds_toArray, List.set_cons_zero, List.set_cons_succ]
                  refine wpAnyH_take (i := 10) (v := ?_) (by simp only [List.getElem?_toArray, List.getElem?_cons_succ, List.getElem?_cons_zero]; rfl) (by kernel_rfl) (by kernel_rfl) (by kernel_rfl) (by intro _ _ _ h; exact h) (Or.inl ⟨by rfl, ?_⟩) hHeld ?_
                  rotate_left 1
                  · intro wq hSw
                    try dsimp only at hSw
                    go_simp
                    try (with_reducible rfl)
                  try simp only [Act.put, List.setIfInBounds_toArray, List.set_cons_zero, List.set_cons_succ]
                  refine wpAnyH_take (i := 11) (v := .int .i64 (mm : Int)) (by simp only [List.getElem?_toArray, List.getElem?_cons_succ, List.getElem?_cons_zero]; rfl) (by kernel_rfl) (by kernel_rfl) (by kernel_rfl) (by intro _ _ _ h; exact h) (Or.inl ⟨by rfl, ?_⟩) hHeld ?_
                  · intro wq hSw
                    try dsimp only at hSw
                    go_simp
                    all_goals (first | (with_reducible rfl) | (rw [hmin.out]; done) | (simp [hmin.out]; done))
                  try simp only [Act.put, List.setIfInBounds_toArray, List.set_cons_zero, List.set_cons_succ]
                  refine wpAnyH_take (i := 12) (v := .slice Ae mm ce) (by simp only [List.getElem?_toArray, List.getElem?_cons_succ, List.getElem?_cons_zero]; rfl) (by kernel_rfl) (by kernel_rfl) (by kernel_rfl) (by intro _ _ _ h; exact h) (Or.inl ⟨by rfl, ?_⟩) hHeld ?_
                  · intro wq hSw
                    try dsimp only at hSw
                    have hc0 := hcut wq
                    go_simp
                    all_goals (first | (with_reducible rfl) | (rw [hcut]; done) | (simp [hcut]; done))
                  try simp only [Act.put, List.setIfInBounds_toArray, List.set_cons_zero, List.set_cons_succ]
                  refine wpAnyH_take (i := 13) (v := ?_) (by simp only [List.getElem?_toArray, List.getElem?_cons_succ, List.getElem?_cons_zero]; rfl) (by kernel_rfl) (by kernel_rfl) (by kernel_rfl) (by intro _ _ _ h; exact h) (Or.inl ⟨by rfl, ?_⟩) hHeld ?_
                  rotate_left 1
                  · intro wq hSw
                    try dsimp only at hSw
                    go_simp
                    try (with_reducible rfl)
                  try simp only [Act.put, List.setIfInBounds_toArray, List.set_cons_zero, List.set_cons_succ]
                  refine wpAnyH_ready (rs := [14]) (by kernel_rfl) (by simp) ?_
                  refine AllReadyH.cons (by simp only [List.getElem?_toArray, List.getElem?_cons_succ, List.getElem?_cons_zero]; rfl) (fun K hK => ?_) AllReadyH.nil
                  obtain ⟨r0, r1, r2, f0, f1, f2⟩ := Bm.three
                  go_simp
                  refine hK.out _ _ (bd.setCell (p := ⟨wb.heap.size, 2, none⟩) (Nat.le_refl _) (.slice Ae mm ce)) (fun hHeld => ?_)
                  clear hK K
                  try dsimp only at hHeld
                  try simp only [Act.put, List.setIfInBounds_toArray, List.set_cons_zero, List.set_cons_succ]
                  refine wpAnyH_done (by kernel_rfl) ?_ _
                  have B6 := Bm.set 2 (.slice Ae mm ce)
                  simp only [List.setIfInBounds_toArray, List.set_cons_zero, List.set_cons_succ] at B6
                  have b6 := bd.setCell (p := ⟨wb.heap.size, 2, none⟩) (Nat.le_refl _) (.slice Ae mm ce)
                  have sl6 := (hS.upto hmm.1).below (bb.trans (b6.mono bb.size))
                  rw [← List.map_take] at sl6
                  try (go_wp2_with fail)
                  go_meet
                  case rel => exact ⟨Ae, mm, ce, _, hrk, rfl, rfl, hrl2, B6, sl6, b6⟩
              · as_aux_lemma =>
                  obtain ⟨q, hq⟩ : ∃ q, Hid (k = na + q) := ⟨k - na, by show _ = _; omega⟩
                  have hqb : q < nb := by have := hq.out; omega
                  obtain ⟨ge, oe, x, Ae, ce, rfl, -, hge, hx, e0', e1', e2', hS, -⟩ := Rs.rec_at hb hqb
                  have hrk := hat2 q x hx
                  rw [← hq.out] at hrk
                  have hqi : (k : Int) - (na : Int) = (q : Int) := by have := hq.out; omega
                  replace hqi := Lib.hid hqi
                  clear e0' e1' hx
                  obtain ⟨mm, hmin⟩ : ∃ m : Nat, Hid ((if (60 : Int) < (x.l.length : Int) then (60 : Int) else (x.l.length : Int)) = (m : Int)) := ⟨min x.l.length 60, by show _ = _; split <;> omega⟩
                  have hmm : mm ≤ x.l.length ∧ mm ≤ 60 := by
                    have := hmin.out
                    split at this <;> omega
                  have hmt : x.l.take 60 = x.l.take mm := by
                    have := hmin.out
                    split at this
                    · congr 1; omega
                    · rw [List.take_of_length_le (by omega), List.take_of_length_le (by omega)]
                  rw [hmt] at hrk
                  have hrl2 : (x.l.take mm).length = mm := by rw [List.length_take]; omega
                  have hmc : mm ≤ ce := Nat.le_trans hmm.1 hS.cap
                  have hmg := hS.big
                  have hcut := fun V => run_cut0 (P := Tryd.prog) 24 5 un22 el22 sz5 Ae x.l.length ce .i64 (mm : Int) mm rfl hmc V
                  have hge2 := Nat.lt_of_lt_of_le hge bb.size
                  have e2 := (bb.cell (p := ⟨ge, oe + q * 3 + 2, none⟩) hge).trans e2'
                  clear e2' hmt
                  go_wp2_with fail
                  refine wp_region_held_drew (S := fun w' => Below wb.heap.size wb w') (by kernel_rfl) al.drew (fun hHeld => ?_)
                  try dsimp only at hHeld
                  have bd : Below wb.heap.size wb w5.drew := al.drew
                  replace Bm := Bm.under (Below.refl w5.heap.size w5).drew
                  generalize w5.drew = wd at *
                  try simp only [Act.put, List.setIfInBounds_toArray, List.set_cons_zero, List.set_cons_succ]
                  refine wpAnyH_take (i := 0) (v := ?_) (by simp only [List.getElem?_toArray, List.getElem?_cons_zero]; rfl) (by kernel_rfl) (by kernel_rfl) (by kernel_rfl) (by intro _ _ _ h; exact h) (Or.inl ⟨by rfl, ?_⟩) hHeld ?_
                  rotate_left 1
                  · intro wq hSw
                    try dsimp only at hSw
                    go_simp
                    try (with_reducible rfl)
                  try simp only [Act.put, List.setIfInBounds_toArray, List.set_cons_zero, List.set_cons_succ]
                  refine wpAnyH_take (i := 1) (v := ?_) (by simp only [List.getElem?_toArray, List.getElem?_cons_succ, List.getElem?_cons_zero]; rfl) (by kernel_rfl) (by kernel_rfl) (by kernel_rfl) (by intro _ _ _ h; exact h) (Or.inl ⟨by rfl, ?_⟩) hHeld ?_
                  rotate_left 1
                  · intro wq hSw
                    try dsimp only at hSw
                    go_simp
                    try (with_reducible rfl)
                  try simp only [Act.put, List.setIfInBounds_toArray, List.set_cons_zero, List.set_cons_succ]
                  refine wpAnyH_take (i := 2) (v := ?_) (by simp only [List.getElem?_toArray, List.getElem?_cons_succ, List.getElem?_cons_zero]; rfl) (by kernel_rfl) (by kernel_rfl) (by kernel_rfl) (by intro _ _ _ h; exact h) (Or.inl ⟨by rfl, ?_⟩) hHeld ?_
                  rotate_left 1
                  · intro wq hSw
                    try dsimp only at hSw
                    go_simp
                    try (with_reducible rfl)
                  try simp only [Act.put, List.setIfInBounds_toArray, List.set_cons_zero, List.set_cons_succ]
                  refine wpAnyH_take (i := 3) (v := ?_) (by simp only [List.getElem?_toArray, List.getElem?_cons_succ, List.getElem?_cons_zero]; rfl) (by kernel_rfl) (by kernel_rfl) (by kernel_rfl) (by intro _ _ _ h; exact h) (Or.inl ⟨by rfl, ?_⟩) hHeld ?_
                  rotate_left 1
                  · intro wq hSw
                    try dsimp only at hSw
                    go_simp
                    try (with_reducible rfl)
                  try simp only [Act.put, List.setIfInBounds_toArray, List.set_cons_zero, List.set_cons_succ]
                  refine wpAnyH_take (i := 4) (v := .int .i64 (q : Int)) (by simp only [List.getElem?_toArray, List.getElem?_cons_succ, List.getElem?_cons_zero]; rfl) (by kernel_rfl) (by kernel_rfl) (by kernel_rfl) (by intro _ _ _ h; exact h) (Or.inl ⟨by rfl, ?_⟩) hHeld ?_
                  · intro wq hSw
                    try dsimp only at hSw
                    go_simp
                    all_goals (first | (with_reducible rfl) | (rw [hqi.out]; exact wrapi64 (by omega) (by omega)) | (rw [hqi.out, wrapi64 (by omega) (by omega)]) | (simp [hqi.out]; done))
                  try simp only [Act.put, List.setIfInBounds_toArray, List.set_cons_zero, List.set_cons_succ]
                  refine wpAnyH_take (i := 5) (v := .pointer (some ⟨ge, oe + q * 3, none⟩)) (by simp only [List.getElem?_toArray, List.getElem?_cons_succ, List.getElem?_cons_zero]; rfl) (by kernel_rfl) (by kernel_rfl) (by kernel_rfl) (by intro _ _ _ h; exact h) (Or.inl ⟨by rfl, ?_⟩) hHeld ?_
                  · intro wq hSw
                    try dsimp only at hSw
                    go_simp
                    all_goals (first | (with_reducible rfl) | (intro hh; exfalso; omega))
                  try simp only [Act.put, List.setIfInBounds_toArray, List.set_cons_zero, List.set_cons_succ]
                  refine wpAnyH_take (i := 6) (v := ?_) (by simp only [List.getElem?_toArray, List.getElem?_cons_succ, List.getElem?_cons_zero]; rfl) (by kernel_rfl) (by kernel_rfl) (by kernel_rfl) (by intro _ _ _ h; exact h) (Or.inl ⟨by rfl, ?_⟩) hHeld ?_
                  rotate_left 1
                  · intro wq hSw
                    try dsimp only at hSw
                    go_simp
                    try (with_reducible rfl)
                  try simp only [Act.put, List.setIfInBounds_toArray, List.set_cons_zero, List.set_cons_succ]
                  refine wpAnyH_take (i := 7) (v := ?_) (by simp only [List.getElem?_toArray, List.getElem?_cons_succ, List.getElem?_cons_zero]; rfl) (by kernel_rfl) (by kernel_rfl) (by kernel_rfl) (by intro _ _ _ h; exact h) (Or.inl ⟨by rfl, ?_⟩) hHeld ?_
                  rotate_left 1
                  · intro wq hSw
                    try dsimp only at hSw
                    have x2 := (hSw.cell hge2).trans e2
                    go_simp
                    try (with_reducible rfl)
                  try simp only [Act.put, List.setIfInBounds_toArray, List.set_cons_zero, List.set_cons_succ]
                  refine wpAnyH_take (i := 8) (v := ?_) (by simp only [List.getElem?_toArray, List.getElem?_cons_succ, List.getElem?_cons_zero]; rfl) (by kernel_rfl) (by kernel_rfl) (by kernel_rfl) (by intro _ _ _ h; exact h) (Or.inl ⟨by rfl, ?_⟩) hHeld ?_
                  rotate_left 1
                  · intro wq hSw
                    try dsimp only at hSw
                    go_simp
                    try (with_reducible rfl)
                  try simp only [Act.put, List.setIfInBounds_toArray, List.set_cons_zero, List.set_cons_succ]
                  refine wpAnyH_take (i := 9) (v := ?_) (by simp only [List.getElem?_toArray, List.getElem?_cons_succ, List.getElem?_cons_zero]; rfl) (by kernel_rfl) (by kernel_rfl) (by kernel_rfl) (by intro _ _ _ h; exact h) (Or.inl ⟨by rfl, ?_⟩) hHeld ?_
                  rotate_left 1
                  · intro wq hSw
                    try dsimp only at hSw
                    go_simp
                    try (with_reducible rfl)
                  try simp only [Act.put, List.setIfInBounds_toArray, List.set_cons_zero, List.set_cons_succ]
                  refine wpAnyH_take (i := 10) (v := ?_) (by simp only [List.getElem?_toArray, List.getElem?_cons_succ, List.getElem?_cons_zero]; rfl) (by kernel_rfl) (by kernel_rfl) (by kernel_rfl) (by intro _ _ _ h; exact h) (Or.inl ⟨by rfl, ?_⟩) hHeld ?_
                  rotate_left 1
                  · intro wq hSw
                    try dsimp only at hSw
                    go_simp
                    try (with_reducible rfl)
                  try simp only [Act.put, List.setIfInBounds_toArray, List.set_cons_zero, List.set_cons_succ]
                  refine wpAnyH_take (i := 11) (v := ?_) (by simp only [List.getElem?_toArray, List.getElem?_cons_succ, List.getElem?_cons_zero]; rfl) (by kernel_rfl) (by kernel_rfl) (by kernel_rfl) (by intro _ _ _ h; exact h) (Or.inl ⟨by rfl, ?_⟩) hHeld ?_
                  rotate_left 1
                  · intro wq hSw
                    try dsimp only at hSw
                    go_simp
                    try (with_reducible rfl)
                  try simp only [Act.put, List.setIfInBounds_toArray, List.set_cons_zero, List.set_cons_succ]
                  refine wpAnyH_take (i := 12) (v := .int .i64 (q : Int)) (by simp only [List.getElem?_toArray, List.getElem?_cons_succ, List.getElem?_cons_zero]; rfl) (by kernel_rfl) (by kernel_rfl) (by kernel_rfl) (by intro _ _ _ h; exact h) (Or.inl ⟨by rfl, ?_⟩) hHeld ?_
                  · intro wq hSw
                    try dsimp only at hSw
                    go_simp
                    all_goals (first | (with_reducible rfl) | (rw [hqi.out]; exact wrapi64 (by omega) (by omega)) | (rw [hqi.out, wrapi64 (by omega) (by omega)]) | (simp [hqi.out]; done))
                  try simp only [Act.put, List.setIfInBounds_toArray, List.set_cons_zero, List.set_cons_succ]
                  refine wpAnyH_take (i := 13) (v := .pointer (some ⟨ge, oe + q * 3, none⟩)) (by simp only [List.getElem?_toArray, List.getElem?_cons_succ, List.getElem?_cons_zero]; rfl) (by kernel_rfl) (by kernel_rfl) (by kernel_rfl) (by intro _ _ _ h; exact h) (Or.inl ⟨by rfl, ?_⟩) hHeld ?_
                  · intro wq hSw
                    try dsimp only at hSw
                    go_simp
                    all_goals (first | (with_reducible rfl) | (intro hh; exfalso; omega))
                  try simp only [Act.put, List.setIfInBounds_toArray, List.set_cons_zero, List.set_cons_succ]
                  refine wpAnyH_take (i := 14) (v := ?_) (by simp only [List.getElem?_toArray, List.getElem?_cons_succ, List.getElem?_cons_zero]; rfl) (by kernel_rfl) (by kernel_rfl) (by kernel_rfl) (by intro _ _ _ h; exact h) (Or.inl ⟨by rfl, ?_⟩) hHeld ?_
                  rotate_left 1
                  · intro wq hSw
                    try dsimp only at hSw
                    go_simp
                    try (with_reducible rfl)
                  try simp only [Act.put, List.setIfInBounds_toArray, List.set_cons_zero, List.set_cons_succ]
                  refine wpAnyH_take (i := 15) (v := ?_) (by simp only [List.getElem?_toArray, List.getElem?_cons_succ, List.getElem?_cons_zero]; rfl) (by kernel_rfl) (by kernel_rfl) (by kernel_rfl) (by intro _ _ _ h; exact h) (Or.inl ⟨by rfl, ?_⟩) hHeld ?_
                  rotate_left 1
                  · intro wq hSw
                    try dsimp only at hSw
                    have x2 := (hSw.cell hge2).trans e2
                    go_simp
                    try (with_reducible rfl)
                  try simp only [Act.put, List.setIfInBounds_toArray, List.set_cons_zero, List.set_cons_succ]
                  refine wpAnyH_take (i := 16) (v := ?_) (by simp only [List.getElem?_toArray, List.getElem?_cons_succ, List.getElem?_cons_zero]; rfl) (by kernel_rfl) (by kernel_rfl) (by kernel_rfl) (by intro _ _ _ h; exact h) (Or.inl ⟨by rfl, ?_⟩) hHeld ?_
                  rotate_left 1
                  · intro wq hSw
                    try dsimp only at hSw
                    go_simp
                    try (with_reducible rfl)
                  try simp only [Act.put, List.setIfInBounds_toArray, List.set_cons_zero, List.set_cons_succ]
                  refine wpAnyH_take (i := 17) (v := .int .i64 (mm : Int)) (by simp only [List.getElem?_toArray, List.getElem?_cons_succ, List.getElem?_cons_zero]; rfl) (by kernel_rfl) (by kernel_rfl) (by kernel_rfl) (by intro _ _ _ h; exact h) (Or.inl ⟨by rfl, ?_⟩) hHeld ?_
                  · intro wq hSw
                    try dsimp only at hSw
                    go_simp
                    all_goals (first | (with_reducible rfl) | (rw [hmin.out]; done) | (simp [hmin.out]; done))
                  try simp only [Act.put, List.setIfInBounds_toArray, List.set_cons_zero, List.set_cons_succ]
                  refine wpAnyH_take (i := 18) (v := .slice Ae mm ce) (by simp only [List.getElem?_toArray, List.getElem?_cons_succ, List.getElem?_cons_zero]; rfl) (by kernel_rfl) (by kernel_rfl) (by kernel_rfl) (by intro _ _ _ h; exact h) (Or.inl ⟨by rfl, ?_⟩) hHeld ?_
                  · intro wq hSw
                    try dsimp only at hSw
                    have hc0 := hcut wq
                    go_simp
                    all_goals (first | (with_reducible rfl) | (rw [hcut]; done) | (simp [hcut]; done))
                  try simp only [Act.put, List.setIfInBounds_toArray, List.set_cons_zero, List.set_cons_succ]
                  refine wpAnyH_take (i := 19) (v := ?_) (by simp only [List.getElem?_toArray, List.getElem?_cons_succ, List.getElem?_cons_zero]; rfl) (by kernel_rfl) (by kernel_rfl) (by kernel_rfl) (by intro _ _ _ h; exact h) (Or.inl ⟨by rfl, ?_⟩) hHeld ?_
                  rotate_left 1
                  · intro wq hSw
                    try dsimp only at hSw
                    go_simp
                    try (with_reducible rfl)
                  try simp only [Act.put, List.setIfInBounds_toArray, List.set_cons_zero, List.set_cons_succ]
                  refine wpAnyH_ready (rs := [20]) (by kernel_rfl) (by simp) ?_
                  refine AllReadyH.cons (by simp only [List.getElem?_toArray, List.getElem?_cons_succ, List.getElem?_cons_zero]; rfl) (fun K hK => ?_) AllReadyH.nil
                  obtain ⟨r0, r1, r2, f0, f1, f2⟩ := Bm.three
                  go_simp
                  refine hK.out _ _ (bd.setCell (p := ⟨wb.heap.size, 2, none⟩) (Nat.le_refl _) (.slice Ae mm ce)) (fun hHeld => ?_)
                  clear hK K
                  try dsimp only at hHeld
                  try simp only [Act.put, List.setIfInBounds_toArray, List.set_cons_zero, List.set_cons_succ]
                  refine wpAnyH_done (by kernel_rfl) ?_ _
                  have B6 := Bm.set 2 (.slice Ae mm ce)
                  simp only [List.setIfInBounds_toArray, List.set_cons_zero, List.set_cons_succ] at B6
                  have b6 := bd.setCell (p := ⟨wb.heap.size, 2, none⟩) (Nat.le_refl _) (.slice Ae mm ce)
                  have sl6 := (hS.upto hmm.1).below (bb.trans (b6.mono bb.size))
                  rw [← List.map_take] at sl6
                  try (go_wp2_with fail)
                  go_meet
                  case rel => exact ⟨Ae, mm, ce, _, hrk, rfl, rfl, hrl2, B6, sl6, b6⟩
            case rest => as_aux_lemma =>
              clear Bm al
              obtain ⟨Ae, mm, ce, r, hrk, hk2, hks, hrl2, B6, sl6, b6⟩ := hcut
              obtain ⟨w6, hw6⟩ : ∃ x, x = wc := ⟨_, rfl⟩
              subst hw6
              replace Bd := Bd.under b6
              replace Zd := Zd.below b6
              replace bb := bb.trans (b6.mono bb.size)
              have hN := hN
              clear b6
              obtain ⟨p0, p1, p2, p3, p4, _⟩ := Bd.five
              obtain ⟨r0, r1, r2, _⟩ := B6.three
              have al := (Below.refl w6.heap.size w6).alloc (Nat.le_refl _) (.cells #[.int .i64 2, .int .i64 (k : Int), .slice Ae mm ce] 26)
              have Bt := Blk.new w6 #[.int .i64 2, .int .i64 (k : Int), .slice Ae mm ce] 26
              replace Bd := Bd.under al
              replace Zd := Zd.below al
              replace sl6 := sl6.below al
              replace bb := bb.trans (al.mono bb.size)
              replace hrl2 := Lib.hid hrl2
              replace hk2 := Lib.hid hk2
              replace hks := Lib.hid hks
              go_wp2_with fail
              generalize w6.alloc (.cells #[.int .i64 2, .int .i64 (k : Int), .slice Ae mm ce] 26) = w7 at *
              have hRs : Rs recE (fun _ => True) w7 (some ⟨w6.heap.size, 0, none⟩) 1 1 [r] := by
                rw [← hk2.out, ← hks.out] at Bt
                exact rs_rec1 hrl2.out Bt sl6
              have hC := gAppend_any 300 d Ad 12 12 (some ⟨w6.heap.size, 0, none⟩) 1 1 [r] w7 (hT.below bb) Zd hRs (by omega) ⟨hCr.out.lg.dev, by rw [hCr.out.lg.lf]; decide⟩
              have hst := cr_step (na := na) hN.out hCr.out hrk
              obtain ⟨y2, hy2⟩ : ∃ y, apS 300 d [r] = y := ⟨_, rfl⟩
              rw [hy2] at hC hst
              clear hy2 hk2 hks hrk hrl2
              refine hC.mono ?_
              clear hC hRs Bt sl6 p0 p1 p2 p3 p4 r0 r1 r2 B6 al
              obtain ⟨d2, pl, er⟩ := y2
              rintro e w8 ⟨Ax, Ap, kp, cp, hkp, rfl, Zx, -, b8⟩
              dsimp only at hkp Zx hst ⊢
              replace hkp := Lib.hid hkp
              have hkl := Bd.lt
              have hb8 := b8.size
              have al := (Below.refl w8.heap.size w8).alloc (Nat.le_refl _) (.cells #[.int .i64 300, .slice Ax 12 12, .int .i64 d2.lf, .bool d2.dw, .int .i64 d2.dn] 36)
              replace Bd := (Bd.under b8).under al
              replace Zx := (Zx.imp (F' := fun b => b ≠ kd) (fun b _ hb => by omega)).below al
              replace bb := (bb.trans (b8.mono bb.size)).trans (al.mono (Nat.le_trans bb.size b8.size))
              have Bx := Blk.new w8 #[.int .i64 300, .slice Ax 12 12, .int .i64 d2.lf, .bool d2.dw, .int .i64 d2.dn] 36
              rcases hst with he | ⟨he, rss2, Fs2, hCr2, hCf2⟩
              · obtain rfl : er = 60 := he
                clear Bd Zx Zd
                go_wp2
                go_ret
                exact ⟨rfl, bb⟩
              · obtain rfl : er = 0 := he
                have hCrA : Aside (Cr rs (k + 1) d2 rss2 Fs2) := hCr2
                have hCfA : Aside (na < k + 1 → Cf na d2 Fs2) := fun h => hCf2 (hCf.out (by omega)) (by omega)
                clear hCr2 hCf2
                obtain ⟨x0, x1, x2, x3, x4, _⟩ := Bx.five
                obtain ⟨p0, p1, p2, p3, p4, f0, f1, f2, f3, f4⟩ := Bd.five
                go_upto_region 19 with (fail)
                generalize w8.alloc (.cells #[.int .i64 300, .slice Ax 12 12, .int .i64 d2.lf, .bool d2.dw, .int .i64 d2.dn] 36) = w9 at *
                have B9 := (((((Bd.set 0 (.int .i64 300)).set 1 (.slice Ax 12 12)).set 2 (.int .i64 d2.lf)).set 3 (.bool d2.dw)).set 4 (.int .i64 d2.dn))
                simp only [List.setIfInBounds_toArray, List.set_cons_zero, List.set_cons_succ] at B9
                have nk : ¬ (kd ≠ kd) := fun h => h rfl
                have Z9 := (((((Zx.far (a := ⟨kd, 0, none⟩) nk (.int .i64 300)).far (a := ⟨kd, 1, none⟩) nk (.slice Ax 12 12)).far (a := ⟨kd, 2, none⟩) nk (.int .i64 d2.lf)).far (a := ⟨kd, 3, none⟩) nk (.bool d2.dw)).far (a := ⟨kd, 4, none⟩) nk (.int .i64 d2.dn))
                have b9 := (((((bb.setCell (p := ⟨kd, 0, none⟩) hkd (.int .i64 300)).setCell (p := ⟨kd, 1, none⟩) hkd (.slice Ax 12 12)).setCell (p := ⟨kd, 2, none⟩) hkd (.int .i64 d2.lf)).setCell (p := ⟨kd, 3, none⟩) hkd (.bool d2.dw)).setCell (p := ⟨kd, 4, none⟩) hkd (.int .i64 d2.dn))
                clear Bd Zx bb
                go_upto_region 20 with (fail)
                generalize (((((w9.setCell ⟨kd, 0, none⟩ (.int .i64 300)).setCell ⟨kd, 1, none⟩ (.slice Ax 12 12)).setCell ⟨kd, 2, none⟩ (.int .i64 d2.lf)).setCell ⟨kd, 3, none⟩ (.bool d2.dw)).setCell ⟨kd, 4, none⟩ (.int .i64 d2.dn)) = wG at *
                clear x0 x1 x2 x3 x4 p0 p1 p2 p3 p4 f0 f1 f2 f3 f4 Bx al b8 Zd
                go_wp2_with fail
                go_roundg g
                case measure => omega
                case rel => exact ⟨k + 1, Ax, d2, rss2, Fs2, by omega, by first | rfl | (simp; done) | (simp; exact wrap64_small (by omega) (by omega)), by first | rfl | (simp; done) | (simp; exact wrap64_small (by omega) (by omega)), hCrA, hCfA, B9, Z9, b9⟩
        · have hkk : Hid (k = na + nb) := by show _ = _; omega
          go_upto_if 135 with (fail)
          go_cut [] from 26 (fun wc => ∃ (Ad : Option Addr) (d : Dp) (rss : List (List Rp)) (Fs : List Fp), Aside (Cr rs (na + nb) d rss Fs) ∧ Aside (Cf na d Fs) ∧ Blk wc kd #[.int .i64 300, .slice Ad 12 12, .int .i64 d.lf, .bool d.dw, .int .i64 d.dn] 36 ∧ Zs (fun b => b ≠ kd) wc Ad 12 12 d.zs ∧ Below w.heap.size w wc)
          case first => as_aux_lemma =>
            by_cases hc : nb = 0
            · have hki : ((nb : Int) == 0) = true := by rw [hc]; rfl
              replace hc := Lib.hid hc
              clear hCf
              obtain ⟨hfe, hCr2, hCf2⟩ := cr_flush hCr.out
              obtain ⟨y, hy⟩ : ∃ y, Hid (doS 300 d ⟨5, 0, []⟩ = y) := ⟨_, rfl⟩
              rw [hy.out] at hCr2 hCf2
              have hlf : Hid (d.lf = -1) := hCr.out.lg.lf
              have hdev := hCr.out.lg.dev
              have hfe' : Hid (doE 300 d ⟨5, 0, []⟩ = 0) := hfe
              obtain ⟨p0, p1, p2, p3, p4, _⟩ := Bd.five
              clear hfe
              go_wp2_with fail
              refine (dDo_at 300 d.lf d.dn d.dw Ad 12 12 d.zs 5 0 none 0 0 [] y.lf y.dn y.dw y.zs 0 wr Zd (sm_dev hdev) (Sl.nil _) (by omega) (by rw [hlf.out]; decide) (by rw [← hy.out]; rfl) (by rw [← hy.out]; rfl) (by rw [← hy.out]; rfl) (by rw [← hy.out]; rfl) (by rw [← hfe'.out]; rfl)).mono ?_
              rintro e w8 ⟨Ay, rfl, Zy, b8⟩
              have hkl := Bd.lt
              have hb8 := b8.size
              have al := (Below.refl w8.heap.size w8).alloc (Nat.le_refl _) (.cells #[.int .i64 300, .slice Ay 12 12, .int .i64 y.lf, .bool y.dw, .int .i64 y.dn] 36)
              replace Bd := (Bd.under b8).under al
              replace Zy := (Zy.imp (F' := fun b => b ≠ kd) (fun b _ hb => by omega)).below al
              replace bb := (bb.trans (b8.mono bb.size)).trans (al.mono (Nat.le_trans bb.size b8.size))
              have By := Blk.new w8 #[.int .i64 300, .slice Ay 12 12, .int .i64 y.lf, .bool y.dw, .int .i64 y.dn] 36
              obtain ⟨x0, x1, x2, x3, x4, _⟩ := By.five
              clear p0 p1 p2 p3 p4
              obtain ⟨p0, p1, p2, p3, p4, f0, f1, f2, f3, f4⟩ := Bd.five
              go_upto_region 23 with (fail)
              generalize w8.alloc (.cells #[.int .i64 300, .slice Ay 12 12, .int .i64 y.lf, .bool y.dw, .int .i64 y.dn] 36) = w9 at *
              have B9 := (((((Bd.set 0 (.int .i64 300)).set 1 (.slice Ay 12 12)).set 2 (.int .i64 y.lf)).set 3 (.bool y.dw)).set 4 (.int .i64 y.dn))
              simp only [List.setIfInBounds_toArray, List.set_cons_zero, List.set_cons_succ] at B9
              have nk : ¬ (kd ≠ kd) := fun h => h rfl
              have Z9 := (((((Zy.far (a := ⟨kd, 0, none⟩) nk (.int .i64 300)).far (a := ⟨kd, 1, none⟩) nk (.slice Ay 12 12)).far (a := ⟨kd, 2, none⟩) nk (.int .i64 y.lf)).far (a := ⟨kd, 3, none⟩) nk (.bool y.dw)).far (a := ⟨kd, 4, none⟩) nk (.int .i64 y.dn))
              have b9 := (((((bb.setCell (p := ⟨kd, 0, none⟩) hkd (.int .i64 300)).setCell (p := ⟨kd, 1, none⟩) hkd (.slice Ay 12 12)).setCell (p := ⟨kd, 2, none⟩) hkd (.int .i64 y.lf)).setCell (p := ⟨kd, 3, none⟩) hkd (.bool y.dw)).setCell (p := ⟨kd, 4, none⟩) hkd (.int .i64 y.dn))
              clear Bd Zy bb
              go_wp2_with fail
              go_meet
              case rel => exact ⟨Ay, y, rss, Fs, hkk.out ▸ hCr2, cf_of (by have := hkk.out; have := hc.out; omega) hCf2, B9, Z9, b9⟩
            · have hki : ((nb : Int) == 0) = false := by simp; omega
              replace hc := Lib.hid hc
              go_wp2_with fail
              go_meet
              case rel => exact ⟨Ad, d, rss, Fs, hkk.out ▸ hCr, hCf.out (by have := hkk.out; have := hc.out; omega), Bd, Zd, bb⟩
          case rest => as_aux_lemma =>
            clear hCr hCf Bd Zd bb
            obtain ⟨Ad, d, rss, Fs, hCr, hCf, Bd, Zd, bb⟩ := hcut
            obtain ⟨wb, hwb⟩ : ∃ x, x = wc := ⟨_, rfl⟩
            subst hwb
            obtain ⟨Z, S, z1, z2, hx, z4, z5, z6, z7, z8, z9⟩ := cr_end hN.out (by rw [hrl.out]; exact hCr.out) (hCf.out) (by have := hrl.out; omega) ks
            obtain ⟨P, hS, hP⟩ := hx.p
            replace hS : Hid _ := hS
            replace hP : Aside _ := hP
            have hZ20 : Z.length ≤ 20 := by have := hN.out.1; omega
            have hS20 : S.length ≤ 20 := by have := hN.out.1; omega
            obtain ⟨Zc, hZc⟩ : ∃ z, Hid (cdZs 300 ks d.zs = z) := ⟨_, rfl⟩
            rw [hZc.out] at z2 z7 z9
            clear hx z4 z5 hCr hN hat1 hat2 ha hb
            obtain ⟨p0, p1, p2, p3, p4, _⟩ := Bd.five
            go_wp2_with fail
            refine (gAll_any 300 d.lf d.dn d.dw Ad 12 12 d.zs Z wb (hT.below bb) Zd z8 z1 z6).mono ?_
            rintro e w10 ⟨Al, kl, cl, hkl, rfl, Rl, b10⟩
            replace hkl := Lib.hid hkl
            replace Bd := Bd.under b10
            replace Zd := Zd.below b10
            replace bb := bb.trans (b10.mono bb.size)
            clear p0 p1 p2 p3 p4 b10 z1 z6
            obtain ⟨p0, p1, p2, p3, p4, _⟩ := Bd.five
            go_wp2_with fail
            refine (dCrash_at 300 d.lf d.dn d.dw Ad 12 12 d.zs K nk ck ks (-1) false Zc w10 Zd (sm_dev z8) (hk.below bb) hf (by simp [cdLf, z8]) (by simp [cdDw, z8]) hZc.out).mono ?_
            rintro e w11 ⟨Ac, rfl, Zv, b11⟩
            replace Rl := Rl.below b11
            replace bb := bb.trans (b11.mono bb.size)
            clear p0 p1 p2 p3 p4 b11 Zd Bd hZc
            go_wp2_with fail
            refine (gAll_any 300 (-1) d.dn false Ac 12 12 Zc S w11 (hT.below bb) Zv z9 z2 z7).mono ?_
            rintro e w12 ⟨As, ms, cs, hms, rfl, Rm, b12⟩
            replace hms := Lib.hid hms
            replace Rl := Rl.below b12
            replace bb := bb.trans (b12.mono bb.size)
            clear b12 Zv z9 z2 z7 z8
            have hkl20 : kl ≤ 20 := by have := hkl.out; omega
            have hms20 : ms ≤ 20 := by have := hms.out; omega
            clear hZ20 hS20
            have c1 := Rl.cap
            have c2 := Rl.big
            have c3 := Rm.cap
            have c4 := Rm.big
            have hc00 : Hid (cntF P Z 0 = 0) := by
              show cntF P Z 0 = 0
              simp [cntF]
            go_wp2_with fail
            go_loopg [24, 25] kl (fun g av iv wr => ∃ j q : Nat, j + g = kl ∧ av = .int .i64 (q : Int) ∧ iv = .int .i64 (j : Int) ∧ Hid (cntF P Z j = q) ∧ Below w12.heap.size w12 wr)
            case atStart => exact ⟨0, 0, by omega, rfl, rfl, hc00, Below.refl _ _⟩
            case round =>
              obtain ⟨j, q, hj, rfl, rfl, hcq, br⟩ := hrel
              have hq20 : q ≤ 20 := by
                have := cnt_small P Z j
                have := hcq.out
                omega
              by_cases hlt2 : (j : Int) < (kl : Int)
              · obtain ⟨g, rfl⟩ : ∃ g, gk = g + 1 := ⟨gk - 1, by omega⟩
                obtain ⟨gf, of_, f, Af, cf, rfl, -, hgf, hfj, y0', y1', y2', y3', y4', hSf, -⟩ := Rs.fnd_at Rl (show j < kl by omega)
                have hgfr := Nat.lt_of_lt_of_le hgf br.size
                have y0 := (br.cell hgf).trans y0'
                have y1 := (br.cell hgf).trans y1'
                have y2 := (br.cell hgf).trans y2'
                have y3 := (br.cell hgf).trans y3'
                have y4 := (br.cell hgf).trans y4'
                have hst := cnt_step (P := P) hfj
                rw [hcq.out] at hst
                clear y0' y1' y2' y3' y4'
                cases hp : P f with
                | true =>
                  have hyes := cnt_yes hfj hp
                  rw [hcq.out, ← hS.out] at hyes
                  have hqm : q < ms := by
                    rw [hms.out]
                    exact (List.getElem?_eq_some_iff.1 hyes).1
                  obtain ⟨gs, os_, f2, A2, c2_, rfl, -, hgs, hf2, z0', z1', z2', z3', z4', hS2, -⟩ := Rs.fnd_at Rm hqm
                  have hgsr := Nat.lt_of_lt_of_le hgs br.size
                  have z0 := (br.cell hgs).trans z0'
                  have z1 := (br.cell hgs).trans z1'
                  have z2 := (br.cell hgs).trans z2'
                  have z3 := (br.cell hgs).trans z3'
                  have z4 := (br.cell hgs).trans z4'
                  clear z0' z1' z2' z3' z4'
                  cases hyes.symm.trans hf2
                  have hsm := sameR_self f.r.k f.r.s f.r.l
                  have hcn : Hid (cntF P Z (j + 1) = q + 1) := by
                    show _ = _
                    rw [hst, hp]
                    rfl
                  clear hyes hf2 hst hp hfj
                  as_aux_lemma =>
                    go_wp2_with fail
                    refine wp_region_held_drew (S := fun w' => Below wr.heap.size wr w') (by kernel_rfl) (Below.refl _ _).drew (fun hHeld => ?_)
                    try dsimp only at hHeld
                    have bd : Below wr.heap.size wr wr.drew := (Below.refl wr.heap.size wr).drew
                    generalize wr.drew = wd at *
                    try simp only [Act.put, List.setIfInBounds_toArray, List.set_cons_zero, List.set_cons_succ]
                    refine wpAnyH_take (i := 0) (v := ?_) (by simp only [List.getElem?_toArray, List.getElem?_cons_zero]; rfl) (by kernel_rfl) (by kernel_rfl) (by kernel_rfl) (by intro _ _ _ h; exact h) (Or.inl ⟨by rfl, ?_⟩) hHeld ?_
                    rotate_left 1
                    · intro wq hSw
                      try dsimp only at hSw
                      go_simp
                      try (with_reducible rfl)
                    try simp only [Act.put, List.setIfInBounds_toArray, List.set_cons_zero, List.set_cons_succ]
                    refine wpAnyH_take (i := 1) (v := ?_) (by simp only [List.getElem?_toArray, List.getElem?_cons_succ, List.getElem?_cons_zero]; rfl) (by kernel_rfl) (by kernel_rfl) (by kernel_rfl) (by intro _ _ _ h; exact h) (Or.inl ⟨by rfl, ?_⟩) hHeld ?_
                    rotate_left 1
                    · intro wq hSw
                      try dsimp only at hSw
                      go_simp
                      try (with_reducible rfl)
                    try simp only [Act.put, List.setIfInBounds_toArray, List.set_cons_zero, List.set_cons_succ]
                    refine wpAnyH_take (i := 2) (v := ?_) (by simp only [List.getElem?_toArray, List.getElem?_cons_succ, List.getElem?_cons_zero]; rfl) (by kernel_rfl) (by kernel_rfl) (by kernel_rfl) (by intro _ _ _ h; exact h) (Or.inl ⟨by rfl, ?_⟩) hHeld ?_
                    rotate_left 1
                    · intro wq hSw
                      try dsimp only at hSw
                      go_simp
                      try (with_reducible rfl)
                    try simp only [Act.put, List.setIfInBounds_toArray, List.set_cons_zero, List.set_cons_succ]
                    refine wpAnyH_take (i := 3) (v := .bool true) (by simp only [List.getElem?_toArray, List.getElem?_cons_succ, List.getElem?_cons_zero]; rfl) (by kernel_rfl) (by kernel_rfl) (by kernel_rfl) (by intro _ _ _ h; exact h) (Or.inl ⟨by rfl, ?_⟩) hHeld ?_
                    · intro wq hSw
                      try dsimp only at hSw
                      go_simp
                      all_goals (first | (with_reducible rfl) | omega | (simp; done) | (simp; omega))
                    try simp only [Act.put, List.setIfInBounds_toArray, List.set_cons_zero, List.set_cons_succ]
                    refine wpAnyH_take (i := 4) (v := ?_) (by simp only [List.getElem?_toArray, List.getElem?_cons_succ, List.getElem?_cons_zero]; rfl) (by kernel_rfl) (by kernel_rfl) (by kernel_rfl) (by intro _ _ _ h; exact h) (Or.inl ⟨by rfl, ?_⟩) hHeld ?_
                    rotate_left 1
                    · intro wq hSw
                      try dsimp only at hSw
                      go_simp
                      try (with_reducible rfl)
                    try simp only [Act.put, List.setIfInBounds_toArray, List.set_cons_zero, List.set_cons_succ]
                    refine wpAnyH_take (i := 5) (v := ?_) (by simp only [List.getElem?_toArray, List.getElem?_cons_succ, List.getElem?_cons_zero]; rfl) (by kernel_rfl) (by kernel_rfl) (by kernel_rfl) (by intro _ _ _ h; exact h) (Or.inl ⟨by rfl, ?_⟩) hHeld ?_
                    rotate_left 1
                    · intro wq hSw
                      try dsimp only at hSw
                      go_simp
                      try (with_reducible rfl)
                    try simp only [Act.put, List.setIfInBounds_toArray, List.set_cons_zero, List.set_cons_succ]
                    refine wpAnyH_take (i := 6) (v := ?_) (by simp only [List.getElem?_toArray, List.getElem?_cons_succ, List.getElem?_cons_zero]; rfl) (by kernel_rfl) (by kernel_rfl) (by kernel_rfl) (by intro _ _ _ h; exact h) (Or.inl ⟨by rfl, ?_⟩) hHeld ?_
                    rotate_left 1
                    · intro wq hSw
                      try dsimp only at hSw
                      go_simp
                      try (with_reducible rfl)
                    try simp only [Act.put, List.setIfInBounds_toArray, List.set_cons_zero, List.set_cons_succ]
                    refine wpAnyH_take (i := 7) (v := .pointer (some ⟨gf, of_ + j * 5, none⟩)) (by simp only [List.getElem?_toArray, List.getElem?_cons_succ, List.getElem?_cons_zero]; rfl) (by kernel_rfl) (by kernel_rfl) (by kernel_rfl) (by intro _ _ _ h; exact h) (Or.inl ⟨by rfl, ?_⟩) hHeld ?_
                    · intro wq hSw
                      try dsimp only at hSw
                      go_simp
                      all_goals (first | (with_reducible rfl) | (intro hh; exfalso; omega))
                    try simp only [Act.put, List.setIfInBounds_toArray, List.set_cons_zero, List.set_cons_succ]
                    refine wpAnyH_take (i := 8) (v := ?_) (by simp only [List.getElem?_toArray, List.getElem?_cons_succ, List.getElem?_cons_zero]; rfl) (by kernel_rfl) (by kernel_rfl) (by kernel_rfl) (by intro _ _ _ h; exact h) (Or.inl ⟨by rfl, ?_⟩) hHeld ?_
                    rotate_left 1
                    · intro wq hSw
                      try dsimp only at hSw
                      go_simp
                      try (with_reducible rfl)
                    try simp only [Act.put, List.setIfInBounds_toArray, List.set_cons_zero, List.set_cons_succ]
                    refine wpAnyH_take (i := 9) (v := ?_) (by simp only [List.getElem?_toArray, List.getElem?_cons_succ, List.getElem?_cons_zero]; rfl) (by kernel_rfl) (by kernel_rfl) (by kernel_rfl) (by intro _ _ _ h; exact h) (Or.inl ⟨by rfl, ?_⟩) hHeld ?_
                    rotate_left 1
                    · intro wq hSw
                      try dsimp only at hSw
                      have x0 := (hSw.cell hgfr).trans y0
                      have x1 := (hSw.cell hgfr).trans y1
                      have x2 := (hSw.cell hgfr).trans y2
                      go_simp
                      try (with_reducible rfl)
                    try simp only [Act.put, List.setIfInBounds_toArray, List.set_cons_zero, List.set_cons_succ]
                    refine wpAnyH_take (i := 10) (v := ?_) (by simp only [List.getElem?_toArray, List.getElem?_cons_succ, List.getElem?_cons_zero]; rfl) (by kernel_rfl) (by kernel_rfl) (by kernel_rfl) (by intro _ _ _ h; exact h) (Or.inl ⟨by rfl, ?_⟩) hHeld ?_
                    rotate_left 1
                    · intro wq hSw
                      try dsimp only at hSw
                      go_simp
                      try (with_reducible rfl)
                    try simp only [Act.put, List.setIfInBounds_toArray, List.set_cons_zero, List.set_cons_succ]
                    refine wpAnyH_take (i := 11) (v := ?_) (by simp only [List.getElem?_toArray, List.getElem?_cons_succ, List.getElem?_cons_zero]; rfl) (by kernel_rfl) (by kernel_rfl) (by kernel_rfl) (by intro _ _ _ h; exact h) (Or.inl ⟨by rfl, ?_⟩) hHeld ?_
                    rotate_left 1
                    · intro wq hSw
                      try dsimp only at hSw
                      go_simp
                      try (with_reducible rfl)
                    try simp only [Act.put, List.setIfInBounds_toArray, List.set_cons_zero, List.set_cons_succ]
                    refine wpAnyH_take (i := 12) (v := .pointer (some ⟨gs, os_ + q * 5, none⟩)) (by simp only [List.getElem?_toArray, List.getElem?_cons_succ, List.getElem?_cons_zero]; rfl) (by kernel_rfl) (by kernel_rfl) (by kernel_rfl) (by intro _ _ _ h; exact h) (Or.inl ⟨by rfl, ?_⟩) hHeld ?_
                    · intro wq hSw
                      try dsimp only at hSw
                      go_simp
                      all_goals (first | (with_reducible rfl) | (intro hh; exfalso; omega))
                    try simp only [Act.put, List.setIfInBounds_toArray, List.set_cons_zero, List.set_cons_succ]
                    refine wpAnyH_take (i := 13) (v := ?_) (by simp only [List.getElem?_toArray, List.getElem?_cons_succ, List.getElem?_cons_zero]; rfl) (by kernel_rfl) (by kernel_rfl) (by kernel_rfl) (by intro _ _ _ h; exact h) (Or.inl ⟨by rfl, ?_⟩) hHeld ?_
                    rotate_left 1
                    · intro wq hSw
                      try dsimp only at hSw
                      go_simp
                      try (with_reducible rfl)
                    try simp only [Act.put, List.setIfInBounds_toArray, List.set_cons_zero, List.set_cons_succ]
                    refine wpAnyH_take (i := 14) (v := ?_) (by simp only [List.getElem?_toArray, List.getElem?_cons_succ, List.getElem?_cons_zero]; rfl) (by kernel_rfl) (by kernel_rfl) (by kernel_rfl) (by intro _ _ _ h; exact h) (Or.inl ⟨by rfl, ?_⟩) hHeld ?_
                    rotate_left 1
                    · intro wq hSw
                      try dsimp only at hSw
                      have x0 := (hSw.cell hgsr).trans z0
                      have x1 := (hSw.cell hgsr).trans z1
                      have x2 := (hSw.cell hgsr).trans z2
                      go_simp
                      try (with_reducible rfl)
                    try simp only [Act.put, List.setIfInBounds_toArray, List.set_cons_zero, List.set_cons_succ]
                    refine wpAnyH_ready (rs := [15]) (by kernel_rfl) (by simp) ?_
                    refine AllReadyH.cons (by simp only [List.getElem?_toArray, List.getElem?_cons_succ, List.getElem?_cons_zero]; rfl) (fun K hK => ?_) AllReadyH.nil
                    have hC := recSame_any f.r.k f.r.s Af f.r.l.length cf f.r.l f.r.k f.r.s A2 f.r.l.length c2_ f.r.l wd (hSf.below (br.trans (bd.mono br.size))) (hS2.below (br.trans (bd.mono br.size)))
                    rw [hsm] at hC
                    go_simp
                    refine hC.mono ?_
                    clear hC
                    rintro e v4 ⟨rfl, b9⟩
                    go_wp2_with fail
                    refine hK.out _ _ (bd.trans (b9.mono bd.size)) (fun hHeld => ?_)
                    clear hK K
                    try dsimp only at hHeld
                    try simp only [Act.put, List.setIfInBounds_toArray, List.set_cons_zero, List.set_cons_succ]
                    refine wpAnyH_take (i := 16) (v := ?_) (by simp only [List.getElem?_toArray, List.getElem?_cons_succ, List.getElem?_cons_zero]; rfl) (by kernel_rfl) (by kernel_rfl) (by kernel_rfl) (by intro _ _ _ h; exact h) (Or.inl ⟨by rfl, ?_⟩) hHeld ?_
                    rotate_left 1
                    · intro wq hSw
                      try dsimp only at hSw
                      go_simp
                      try (with_reducible rfl)
                    try simp only [Act.put, List.setIfInBounds_toArray, List.set_cons_zero, List.set_cons_succ]
                    refine wpAnyH_take (i := 17) (v := ?_) (by simp only [List.getElem?_toArray, List.getElem?_cons_succ, List.getElem?_cons_zero]; rfl) (by kernel_rfl) (by kernel_rfl) (by kernel_rfl) (by intro _ _ _ h; exact h) (Or.inl ⟨by rfl, ?_⟩) hHeld ?_
                    rotate_left 1
                    · intro wq hSw
                      try dsimp only at hSw
                      go_simp
                      try (with_reducible rfl)
                    try simp only [Act.put, List.setIfInBounds_toArray, List.set_cons_zero, List.set_cons_succ]
                    refine wpAnyH_take (i := 18) (v := ?_) (by simp only [List.getElem?_toArray, List.getElem?_cons_succ, List.getElem?_cons_zero]; rfl) (by kernel_rfl) (by kernel_rfl) (by kernel_rfl) (by intro _ _ _ h; exact h) (Or.inl ⟨by rfl, ?_⟩) hHeld ?_
                    rotate_left 1
                    · intro wq hSw
                      try dsimp only at hSw
                      go_simp
                      try (with_reducible rfl)
                    try simp only [Act.put, List.setIfInBounds_toArray, List.set_cons_zero, List.set_cons_succ]
                    refine wpAnyH_take (i := 19) (v := ?_) (by simp only [List.getElem?_toArray, List.getElem?_cons_succ, List.getElem?_cons_zero]; rfl) (by kernel_rfl) (by kernel_rfl) (by kernel_rfl) (by intro _ _ _ h; exact h) (Or.inl ⟨by rfl, ?_⟩) hHeld ?_
                    rotate_left 1
                    · intro wq hSw
                      try dsimp only at hSw
                      go_simp
                      try (with_reducible rfl)
                    try simp only [Act.put, List.setIfInBounds_toArray, List.set_cons_zero, List.set_cons_succ]
                    refine wpAnyH_take (i := 20) (v := .pointer (some ⟨gf, of_ + j * 5, none⟩)) (by simp only [List.getElem?_toArray, List.getElem?_cons_succ, List.getElem?_cons_zero]; rfl) (by kernel_rfl) (by kernel_rfl) (by kernel_rfl) (by intro _ _ _ h; exact h) (Or.inl ⟨by rfl, ?_⟩) hHeld ?_
                    · intro wq hSw
                      try dsimp only at hSw
                      go_simp
                      all_goals (first | (with_reducible rfl) | (intro hh; exfalso; omega))
                    try simp only [Act.put, List.setIfInBounds_toArray, List.set_cons_zero, List.set_cons_succ]
                    refine wpAnyH_take (i := 21) (v := ?_) (by simp only [List.getElem?_toArray, List.getElem?_cons_succ, List.getElem?_cons_zero]; rfl) (by kernel_rfl) (by kernel_rfl) (by kernel_rfl) (by intro _ _ _ h; exact h) (Or.inl ⟨by rfl, ?_⟩) hHeld ?_
                    rotate_left 1
                    · intro wq hSw
                      try dsimp only at hSw
                      go_simp
                      try (with_reducible rfl)
                    try simp only [Act.put, List.setIfInBounds_toArray, List.set_cons_zero, List.set_cons_succ]
                    refine wpAnyH_take (i := 22) (v := ?_) (by simp only [List.getElem?_toArray, List.getElem?_cons_succ, List.getElem?_cons_zero]; rfl) (by kernel_rfl) (by kernel_rfl) (by kernel_rfl) (by intro _ _ _ h; exact h) (Or.inl ⟨by rfl, ?_⟩) hHeld ?_
                    rotate_left 1
                    · intro wq hSw
                      try dsimp only at hSw
                      have x0 := (hSw.cell hgfr).trans y3
                      go_simp
                      try (with_reducible rfl)
                    try simp only [Act.put, List.setIfInBounds_toArray, List.set_cons_zero, List.set_cons_succ]
                    refine wpAnyH_take (i := 23) (v := ?_) (by simp only [List.getElem?_toArray, List.getElem?_cons_succ, List.getElem?_cons_zero]; rfl) (by kernel_rfl) (by kernel_rfl) (by kernel_rfl) (by intro _ _ _ h; exact h) (Or.inl ⟨by rfl, ?_⟩) hHeld ?_
                    rotate_left 1
                    · intro wq hSw
                      try dsimp only at hSw
                      go_simp
                      try (with_reducible rfl)
                    try simp only [Act.put, List.setIfInBounds_toArray, List.set_cons_zero, List.set_cons_succ]
                    refine wpAnyH_take (i := 24) (v := ?_) (by simp only [List.getElem?_toArray, List.getElem?_cons_succ, List.getElem?_cons_zero]; rfl) (by kernel_rfl) (by kernel_rfl) (by kernel_rfl) (by intro _ _ _ h; exact h) (Or.inl ⟨by rfl, ?_⟩) hHeld ?_
                    rotate_left 1
                    · intro wq hSw
                      try dsimp only at hSw
                      go_simp
                      try (with_reducible rfl)
                    try simp only [Act.put, List.setIfInBounds_toArray, List.set_cons_zero, List.set_cons_succ]
                    refine wpAnyH_take (i := 25) (v := .pointer (some ⟨gs, os_ + q * 5, none⟩)) (by simp only [List.getElem?_toArray, List.getElem?_cons_succ, List.getElem?_cons_zero]; rfl) (by kernel_rfl) (by kernel_rfl) (by kernel_rfl) (by intro _ _ _ h; exact h) (Or.inl ⟨by rfl, ?_⟩) hHeld ?_
                    · intro wq hSw
                      try dsimp only at hSw
                      go_simp
                      all_goals (first | (with_reducible rfl) | (intro hh; exfalso; omega))
                    try simp only [Act.put, List.setIfInBounds_toArray, List.set_cons_zero, List.set_cons_succ]
                    refine wpAnyH_take (i := 26) (v := ?_) (by simp only [List.getElem?_toArray, List.getElem?_cons_succ, List.getElem?_cons_zero]; rfl) (by kernel_rfl) (by kernel_rfl) (by kernel_rfl) (by intro _ _ _ h; exact h) (Or.inl ⟨by rfl, ?_⟩) hHeld ?_
                    rotate_left 1
                    · intro wq hSw
                      try dsimp only at hSw
                      go_simp
                      try (with_reducible rfl)
                    try simp only [Act.put, List.setIfInBounds_toArray, List.set_cons_zero, List.set_cons_succ]
                    refine wpAnyH_take (i := 27) (v := ?_) (by simp only [List.getElem?_toArray, List.getElem?_cons_succ, List.getElem?_cons_zero]; rfl) (by kernel_rfl) (by kernel_rfl) (by kernel_rfl) (by intro _ _ _ h; exact h) (Or.inl ⟨by rfl, ?_⟩) hHeld ?_
                    rotate_left 1
                    · intro wq hSw
                      try dsimp only at hSw
                      have x0 := (hSw.cell hgsr).trans z3
                      go_simp
                      try (with_reducible rfl)
                    try simp only [Act.put, List.setIfInBounds_toArray, List.set_cons_zero, List.set_cons_succ]
                    refine wpAnyH_take (i := 28) (v := .bool true) (by simp only [List.getElem?_toArray, List.getElem?_cons_succ, List.getElem?_cons_zero]; rfl) (by kernel_rfl) (by kernel_rfl) (by kernel_rfl) (by intro _ _ _ h; exact h) (Or.inl ⟨by rfl, ?_⟩) hHeld ?_
                    · intro wq hSw
                      try dsimp only at hSw
                      go_simp
                      all_goals (first | (with_reducible rfl) | (simp [hzn]; done) | (simpa using hzn) | (simp; done))
                    try simp only [Act.put, List.setIfInBounds_toArray, List.set_cons_zero, List.set_cons_succ]
                    refine wpAnyH_take (i := 29) (v := ?_) (by simp only [List.getElem?_toArray, List.getElem?_cons_succ, List.getElem?_cons_zero]; rfl) (by kernel_rfl) (by kernel_rfl) (by kernel_rfl) (by intro _ _ _ h; exact h) (Or.inl ⟨by rfl, ?_⟩) hHeld ?_
                    rotate_left 1
                    · intro wq hSw
                      try dsimp only at hSw
                      go_simp
                      try (with_reducible rfl)
                    try simp only [Act.put, List.setIfInBounds_toArray, List.set_cons_zero, List.set_cons_succ]
                    refine wpAnyH_take (i := 30) (v := ?_) (by simp only [List.getElem?_toArray, List.getElem?_cons_succ, List.getElem?_cons_zero]; rfl) (by kernel_rfl) (by kernel_rfl) (by kernel_rfl) (by intro _ _ _ h; exact h) (Or.inl ⟨by rfl, ?_⟩) hHeld ?_
                    rotate_left 1
                    · intro wq hSw
                      try dsimp only at hSw
                      go_simp
                      try (with_reducible rfl)
                    try simp only [Act.put, List.setIfInBounds_toArray, List.set_cons_zero, List.set_cons_succ]
                    refine wpAnyH_take (i := 31) (v := ?_) (by simp only [List.getElem?_toArray, List.getElem?_cons_succ, List.getElem?_cons_zero]; rfl) (by kernel_rfl) (by kernel_rfl) (by kernel_rfl) (by intro _ _ _ h; exact h) (Or.inl ⟨by rfl, ?_⟩) hHeld ?_
                    rotate_left 1
                    · intro wq hSw
                      try dsimp only at hSw
                      go_simp
                      try (with_reducible rfl)
                    try simp only [Act.put, List.setIfInBounds_toArray, List.set_cons_zero, List.set_cons_succ]
                    refine wpAnyH_take (i := 32) (v := ?_) (by simp only [List.getElem?_toArray, List.getElem?_cons_succ, List.getElem?_cons_zero]; rfl) (by kernel_rfl) (by kernel_rfl) (by kernel_rfl) (by intro _ _ _ h; exact h) (Or.inl ⟨by rfl, ?_⟩) hHeld ?_
                    rotate_left 1
                    · intro wq hSw
                      try dsimp only at hSw
                      go_simp
                      try (with_reducible rfl)
                    try simp only [Act.put, List.setIfInBounds_toArray, List.set_cons_zero, List.set_cons_succ]
                    refine wpAnyH_take (i := 33) (v := .pointer (some ⟨gf, of_ + j * 5, none⟩)) (by simp only [List.getElem?_toArray, List.getElem?_cons_succ, List.getElem?_cons_zero]; rfl) (by kernel_rfl) (by kernel_rfl) (by kernel_rfl) (by intro _ _ _ h; exact h) (Or.inl ⟨by rfl, ?_⟩) hHeld ?_
                    · intro wq hSw
                      try dsimp only at hSw
                      go_simp
                      all_goals (first | (with_reducible rfl) | (intro hh; exfalso; omega))
                    try simp only [Act.put, List.setIfInBounds_toArray, List.set_cons_zero, List.set_cons_succ]
                    refine wpAnyH_take (i := 34) (v := ?_) (by simp only [List.getElem?_toArray, List.getElem?_cons_succ, List.getElem?_cons_zero]; rfl) (by kernel_rfl) (by kernel_rfl) (by kernel_rfl) (by intro _ _ _ h; exact h) (Or.inl ⟨by rfl, ?_⟩) hHeld ?_
                    rotate_left 1
                    · intro wq hSw
                      try dsimp only at hSw
                      go_simp
                      try (with_reducible rfl)
                    try simp only [Act.put, List.setIfInBounds_toArray, List.set_cons_zero, List.set_cons_succ]
                    refine wpAnyH_take (i := 35) (v := ?_) (by simp only [List.getElem?_toArray, List.getElem?_cons_succ, List.getElem?_cons_zero]; rfl) (by kernel_rfl) (by kernel_rfl) (by kernel_rfl) (by intro _ _ _ h; exact h) (Or.inl ⟨by rfl, ?_⟩) hHeld ?_
                    rotate_left 1
                    · intro wq hSw
                      try dsimp only at hSw
                      have x0 := (hSw.cell hgfr).trans y4
                      go_simp
                      try (with_reducible rfl)
                    try simp only [Act.put, List.setIfInBounds_toArray, List.set_cons_zero, List.set_cons_succ]
                    refine wpAnyH_take (i := 36) (v := ?_) (by simp only [List.getElem?_toArray, List.getElem?_cons_succ, List.getElem?_cons_zero]; rfl) (by kernel_rfl) (by kernel_rfl) (by kernel_rfl) (by intro _ _ _ h; exact h) (Or.inl ⟨by rfl, ?_⟩) hHeld ?_
                    rotate_left 1
                    · intro wq hSw
                      try dsimp only at hSw
                      go_simp
                      try (with_reducible rfl)
                    try simp only [Act.put, List.setIfInBounds_toArray, List.set_cons_zero, List.set_cons_succ]
                    refine wpAnyH_take (i := 37) (v := ?_) (by simp only [List.getElem?_toArray, List.getElem?_cons_succ, List.getElem?_cons_zero]; rfl) (by kernel_rfl) (by kernel_rfl) (by kernel_rfl) (by intro _ _ _ h; exact h) (Or.inl ⟨by rfl, ?_⟩) hHeld ?_
                    rotate_left 1
                    · intro wq hSw
                      try dsimp only at hSw
                      go_simp
                      try (with_reducible rfl)
                    try simp only [Act.put, List.setIfInBounds_toArray, List.set_cons_zero, List.set_cons_succ]
                    refine wpAnyH_take (i := 38) (v := .pointer (some ⟨gs, os_ + q * 5, none⟩)) (by simp only [List.getElem?_toArray, List.getElem?_cons_succ, List.getElem?_cons_zero]; rfl) (by kernel_rfl) (by kernel_rfl) (by kernel_rfl) (by intro _ _ _ h; exact h) (Or.inl ⟨by rfl, ?_⟩) hHeld ?_
                    · intro wq hSw
                      try dsimp only at hSw
                      go_simp
                      all_goals (first | (with_reducible rfl) | (intro hh; exfalso; omega))
                    try simp only [Act.put, List.setIfInBounds_toArray, List.set_cons_zero, List.set_cons_succ]
                    refine wpAnyH_take (i := 39) (v := ?_) (by simp only [List.getElem?_toArray, List.getElem?_cons_succ, List.getElem?_cons_zero]; rfl) (by kernel_rfl) (by kernel_rfl) (by kernel_rfl) (by intro _ _ _ h; exact h) (Or.inl ⟨by rfl, ?_⟩) hHeld ?_
                    rotate_left 1
                    · intro wq hSw
                      try dsimp only at hSw
                      go_simp
                      try (with_reducible rfl)
                    try simp only [Act.put, List.setIfInBounds_toArray, List.set_cons_zero, List.set_cons_succ]
                    refine wpAnyH_take (i := 40) (v := ?_) (by simp only [List.getElem?_toArray, List.getElem?_cons_succ, List.getElem?_cons_zero]; rfl) (by kernel_rfl) (by kernel_rfl) (by kernel_rfl) (by intro _ _ _ h; exact h) (Or.inl ⟨by rfl, ?_⟩) hHeld ?_
                    rotate_left 1
                    · intro wq hSw
                      try dsimp only at hSw
                      have x0 := (hSw.cell hgsr).trans z4
                      go_simp
                      try (with_reducible rfl)
                    try simp only [Act.put, List.setIfInBounds_toArray, List.set_cons_zero, List.set_cons_succ]
                    refine wpAnyH_take (i := 41) (v := .bool true) (by simp only [List.getElem?_toArray, List.getElem?_cons_succ, List.getElem?_cons_zero]; rfl) (by kernel_rfl) (by kernel_rfl) (by kernel_rfl) (by intro _ _ _ h; exact h) (Or.inl ⟨by rfl, ?_⟩) hHeld ?_
                    · intro wq hSw
                      try dsimp only at hSw
                      go_simp
                      all_goals (first | (with_reducible rfl) | (simp [hat]; done) | (simpa using hat) | (simp; done))
                    try simp only [Act.put, List.setIfInBounds_toArray, List.set_cons_zero, List.set_cons_succ]
                    refine wpAnyH_take (i := 42) (v := ?_) (by simp only [List.getElem?_toArray, List.getElem?_cons_succ, List.getElem?_cons_zero]; rfl) (by kernel_rfl) (by kernel_rfl) (by kernel_rfl) (by intro _ _ _ h; exact h) (Or.inl ⟨by rfl, ?_⟩) hHeld ?_
                    rotate_left 1
                    · intro wq hSw
                      try dsimp only at hSw
                      go_simp
                      try (with_reducible rfl)
                    try simp only [Act.put, List.setIfInBounds_toArray, List.set_cons_zero, List.set_cons_succ]
                    refine wpAnyH_done (by kernel_rfl) ?_ _
                    clear hHeld
                    go_wp2
                    go_roundg g
                    case measure => omega
                    case rel => exact ⟨j + 1, q + 1, by omega, by first | rfl | (simp; done) | (simp; exact wrap64_small (by omega) (by omega)), by first | rfl | (simp; done) | (simp; exact wrap64_small (by omega) (by omega)), hcn, br.trans ((bd.trans (b9.mono bd.size)).mono br.size)⟩
                | false =>
                  have hcn : Hid (cntF P Z (j + 1) = q) := by
                    show _ = _
                    rw [hst, hp]
                    rfl
                  have hge : ¬ j < na := fun h => by
                    have := hP.out j f h hfj
                    rw [hp] at this
                    cases this
                  have hgeI : ¬ (j : Int) < (na : Int) := by omega
                  clear hst
                  by_cases hqm : q < ms
                  · skip
                    obtain ⟨gs, os_, f2, A2, c2_, rfl, -, hgs, hf2, z0', z1', z2', z3', z4', hS2, -⟩ := Rs.fnd_at Rm hqm
                    have hgsr := Nat.lt_of_lt_of_le hgs br.size
                    have z0 := (br.cell hgs).trans z0'
                    have z1 := (br.cell hgs).trans z1'
                    have z2 := (br.cell hgs).trans z2'
                    have z3 := (br.cell hgs).trans z3'
                    have z4 := (br.cell hgs).trans z4'
                    clear z0' z1' z2' z3' z4'
                    have hne : f ≠ f2 := cnt_no hp (by rw [← hS.out]; exact hf2)
                    clear hp hfj hf2
                    cases hsm : sameR f.r.k f.r.s f.r.l f2.r.k f2.r.s f2.r.l with
                    | false =>
                      clear hne
                      as_aux_lemma =>
                        go_wp2_with fail
                        refine wp_region_held_drew (S := fun w' => Below wr.heap.size wr w') (by kernel_rfl) (Below.refl _ _).drew (fun hHeld => ?_)
                        try dsimp only at hHeld
                        have bd : Below wr.heap.size wr wr.drew := (Below.refl wr.heap.size wr).drew
                        generalize wr.drew = wd at *
                        try simp only [Act.put, List.setIfInBounds_toArray, List.set_cons_zero, List.set_cons_succ]
                        refine wpAnyH_take (i := 0) (v := ?_) (by simp only [List.getElem?_toArray, List.getElem?_cons_zero]; rfl) (by kernel_rfl) (by kernel_rfl) (by kernel_rfl) (by intro _ _ _ h; exact h) (Or.inl ⟨by rfl, ?_⟩) hHeld ?_
                        rotate_left 1
                        · intro wq hSw
                          try dsimp only at hSw
                          go_simp
                          try (with_reducible rfl)
                        try simp only [Act.put, List.setIfInBounds_toArray, List.set_cons_zero, List.set_cons_succ]
                        refine wpAnyH_take (i := 1) (v := ?_) (by simp only [List.getElem?_toArray, List.getElem?_cons_succ, List.getElem?_cons_zero]; rfl) (by kernel_rfl) (by kernel_rfl) (by kernel_rfl) (by intro _ _ _ h; exact h) (Or.inl ⟨by rfl, ?_⟩) hHeld ?_
                        rotate_left 1
                        · intro wq hSw
                          try dsimp only at hSw
                          go_simp
                          try (with_reducible rfl)
                        try simp only [Act.put, List.setIfInBounds_toArray, List.set_cons_zero, List.set_cons_succ]
                        refine wpAnyH_take (i := 2) (v := ?_) (by simp only [List.getElem?_toArray, List.getElem?_cons_succ, List.getElem?_cons_zero]; rfl) (by kernel_rfl) (by kernel_rfl) (by kernel_rfl) (by intro _ _ _ h; exact h) (Or.inl ⟨by rfl, ?_⟩) hHeld ?_
                        rotate_left 1
                        · intro wq hSw
                          try dsimp only at hSw
                          go_simp
                          try (with_reducible rfl)
                        try simp only [Act.put, List.setIfInBounds_toArray, List.set_cons_zero, List.set_cons_succ]
                        refine wpAnyH_take (i := 3) (v := .bool true) (by simp only [List.getElem?_toArray, List.getElem?_cons_succ, List.getElem?_cons_zero]; rfl) (by kernel_rfl) (by kernel_rfl) (by kernel_rfl) (by intro _ _ _ h; exact h) (Or.inl ⟨by rfl, ?_⟩) hHeld ?_
                        · intro wq hSw
                          try dsimp only at hSw
                          go_simp
                          all_goals (first | (with_reducible rfl) | omega | (simp; done) | (simp; omega))
                        try simp only [Act.put, List.setIfInBounds_toArray, List.set_cons_zero, List.set_cons_succ]
                        refine wpAnyH_take (i := 4) (v := ?_) (by simp only [List.getElem?_toArray, List.getElem?_cons_succ, List.getElem?_cons_zero]; rfl) (by kernel_rfl) (by kernel_rfl) (by kernel_rfl) (by intro _ _ _ h; exact h) (Or.inl ⟨by rfl, ?_⟩) hHeld ?_
                        rotate_left 1
                        · intro wq hSw
                          try dsimp only at hSw
                          go_simp
                          try (with_reducible rfl)
                        try simp only [Act.put, List.setIfInBounds_toArray, List.set_cons_zero, List.set_cons_succ]
                        refine wpAnyH_take (i := 5) (v := ?_) (by simp only [List.getElem?_toArray, List.getElem?_cons_succ, List.getElem?_cons_zero]; rfl) (by kernel_rfl) (by kernel_rfl) (by kernel_rfl) (by intro _ _ _ h; exact h) (Or.inl ⟨by rfl, ?_⟩) hHeld ?_
                        rotate_left 1
                        · intro wq hSw
                          try dsimp only at hSw
                          go_simp
                          try (with_reducible rfl)
                        try simp only [Act.put, List.setIfInBounds_toArray, List.set_cons_zero, List.set_cons_succ]
                        refine wpAnyH_take (i := 6) (v := ?_) (by simp only [List.getElem?_toArray, List.getElem?_cons_succ, List.getElem?_cons_zero]; rfl) (by kernel_rfl) (by kernel_rfl) (by kernel_rfl) (by intro _ _ _ h; exact h) (Or.inl ⟨by rfl, ?_⟩) hHeld ?_
                        rotate_left 1
                        · intro wq hSw
                          try dsimp only at hSw
                          go_simp
                          try (with_reducible rfl)
                        try simp only [Act.put, List.setIfInBounds_toArray, List.set_cons_zero, List.set_cons_succ]
                        refine wpAnyH_take (i := 7) (v := .pointer (some ⟨gf, of_ + j * 5, none⟩)) (by simp only [List.getElem?_toArray, List.getElem?_cons_succ, List.getElem?_cons_zero]; rfl) (by kernel_rfl) (by kernel_rfl) (by kernel_rfl) (by intro _ _ _ h; exact h) (Or.inl ⟨by rfl, ?_⟩) hHeld ?_
                        · intro wq hSw
                          try dsimp only at hSw
                          go_simp
                          all_goals (first | (with_reducible rfl) | (intro hh; exfalso; omega))
                        try simp only [Act.put, List.setIfInBounds_toArray, List.set_cons_zero, List.set_cons_succ]
                        refine wpAnyH_take (i := 8) (v := ?_) (by simp only [List.getElem?_toArray, List.getElem?_cons_succ, List.getElem?_cons_zero]; rfl) (by kernel_rfl) (by kernel_rfl) (by kernel_rfl) (by intro _ _ _ h; exact h) (Or.inl ⟨by rfl, ?_⟩) hHeld ?_
                        rotate_left 1
                        · intro wq hSw
                          try dsimp only at hSw
                          go_simp
                          try (with_reducible rfl)
                        try simp only [Act.put, List.setIfInBounds_toArray, List.set_cons_zero, List.set_cons_succ]
                        refine wpAnyH_take (i := 9) (v := ?_) (by simp only [List.getElem?_toArray, List.getElem?_cons_succ, List.getElem?_cons_zero]; rfl) (by kernel_rfl) (by kernel_rfl) (by kernel_rfl) (by intro _ _ _ h; exact h) (Or.inl ⟨by rfl, ?_⟩) hHeld ?_
                        rotate_left 1
                        · intro wq hSw
                          try dsimp only at hSw
                          have x0 := (hSw.cell hgfr).trans y0
                          have x1 := (hSw.cell hgfr).trans y1
                          have x2 := (hSw.cell hgfr).trans y2
                          go_simp
                          try (with_reducible rfl)
                        try simp only [Act.put, List.setIfInBounds_toArray, List.set_cons_zero, List.set_cons_succ]
                        refine wpAnyH_take (i := 10) (v := ?_) (by simp only [List.getElem?_toArray, List.getElem?_cons_succ, List.getElem?_cons_zero]; rfl) (by kernel_rfl) (by kernel_rfl) (by kernel_rfl) (by intro _ _ _ h; exact h) (Or.inl ⟨by rfl, ?_⟩) hHeld ?_
                        rotate_left 1
                        · intro wq hSw
                          try dsimp only at hSw
                          go_simp
                          try (with_reducible rfl)
                        try simp only [Act.put, List.setIfInBounds_toArray, List.set_cons_zero, List.set_cons_succ]
                        refine wpAnyH_take (i := 11) (v := ?_) (by simp only [List.getElem?_toArray, List.getElem?_cons_succ, List.getElem?_cons_zero]; rfl) (by kernel_rfl) (by kernel_rfl) (by kernel_rfl) (by intro _ _ _ h; exact h) (Or.inl ⟨by rfl, ?_⟩) hHeld ?_
                        rotate_left 1
                        · intro wq hSw
                          try dsimp only at hSw
                          go_simp
                          try (with_reducible rfl)
                        try simp only [Act.put, List.setIfInBounds_toArray, List.set_cons_zero, List.set_cons_succ]
                        refine wpAnyH_take (i := 12) (v := .pointer (some ⟨gs, os_ + q * 5, none⟩)) (by simp only [List.getElem?_toArray, List.getElem?_cons_succ, List.getElem?_cons_zero]; rfl) (by kernel_rfl) (by kernel_rfl) (by kernel_rfl) (by intro _ _ _ h; exact h) (Or.inl ⟨by rfl, ?_⟩) hHeld ?_
                        · intro wq hSw
                          try dsimp only at hSw
                          go_simp
                          all_goals (first | (with_reducible rfl) | (intro hh; exfalso; omega))
                        try simp only [Act.put, List.setIfInBounds_toArray, List.set_cons_zero, List.set_cons_succ]
                        refine wpAnyH_take (i := 13) (v := ?_) (by simp only [List.getElem?_toArray, List.getElem?_cons_succ, List.getElem?_cons_zero]; rfl) (by kernel_rfl) (by kernel_rfl) (by kernel_rfl) (by intro _ _ _ h; exact h) (Or.inl ⟨by rfl, ?_⟩) hHeld ?_
                        rotate_left 1
                        · intro wq hSw
                          try dsimp only at hSw
                          go_simp
                          try (with_reducible rfl)
                        try simp only [Act.put, List.setIfInBounds_toArray, List.set_cons_zero, List.set_cons_succ]
                        refine wpAnyH_take (i := 14) (v := ?_) (by simp only [List.getElem?_toArray, List.getElem?_cons_succ, List.getElem?_cons_zero]; rfl) (by kernel_rfl) (by kernel_rfl) (by kernel_rfl) (by intro _ _ _ h; exact h) (Or.inl ⟨by rfl, ?_⟩) hHeld ?_
                        rotate_left 1
                        · intro wq hSw
                          try dsimp only at hSw
                          have x0 := (hSw.cell hgsr).trans z0
                          have x1 := (hSw.cell hgsr).trans z1
                          have x2 := (hSw.cell hgsr).trans z2
                          go_simp
                          try (with_reducible rfl)
                        try simp only [Act.put, List.setIfInBounds_toArray, List.set_cons_zero, List.set_cons_succ]
                        refine wpAnyH_ready (rs := [15]) (by kernel_rfl) (by simp) ?_
                        refine AllReadyH.cons (by simp only [List.getElem?_toArray, List.getElem?_cons_succ, List.getElem?_cons_zero]; rfl) (fun K hK => ?_) AllReadyH.nil
                        have hC := recSame_any f.r.k f.r.s Af f.r.l.length cf f.r.l f2.r.k f2.r.s A2 f2.r.l.length c2_ f2.r.l wd (hSf.below (br.trans (bd.mono br.size))) (hS2.below (br.trans (bd.mono br.size)))
                        rw [hsm] at hC
                        go_simp
                        refine hC.mono ?_
                        clear hC
                        rintro e v4 ⟨rfl, b9⟩
                        go_wp2_with fail
                        refine hK.out _ _ (bd.trans (b9.mono bd.size)) (fun hHeld => ?_)
                        clear hK K
                        try dsimp only at hHeld
                        try simp only [Act.put, List.setIfInBounds_toArray, List.set_cons_zero, List.set_cons_succ]
                        refine wpAnyH_take (i := 16) (v := ?_) (by simp only [List.getElem?_toArray, List.getElem?_cons_succ, List.getElem?_cons_zero]; rfl) (by kernel_rfl) (by kernel_rfl) (by kernel_rfl) (by intro _ _ _ h; exact h) (Or.inl ⟨by rfl, ?_⟩) hHeld ?_
                        rotate_left 1
                        · intro wq hSw
                          try dsimp only at hSw
                          go_simp
                          try (with_reducible rfl)
                        try simp only [Act.put, List.setIfInBounds_toArray, List.set_cons_zero, List.set_cons_succ]
                        refine wpAnyH_take (i := 17) (v := ?_) (by simp only [List.getElem?_toArray, List.getElem?_cons_succ, List.getElem?_cons_zero]; rfl) (by kernel_rfl) (by kernel_rfl) (by kernel_rfl) (by intro _ _ _ h; exact h) (Or.inl ⟨by rfl, ?_⟩) hHeld ?_
                        rotate_left 1
                        · intro wq hSw
                          try dsimp only at hSw
                          go_simp
                          try (with_reducible rfl)
                        try simp only [Act.put, List.setIfInBounds_toArray, List.set_cons_zero, List.set_cons_succ]
                        refine wpAnyH_take (i := 18) (v := undef) (by simp only [List.getElem?_toArray, List.getElem?_cons_succ, List.getElem?_cons_zero]; rfl) (by kernel_rfl) (by kernel_rfl) (by kernel_rfl) (by intro _ _ _ h; exact h) (Or.inr ⟨by rfl, rfl⟩) hHeld ?_
                        try simp only [Act.put, List.setIfInBounds_toArray, List.set_cons_zero, List.set_cons_succ]
                        refine wpAnyH_take (i := 19) (v := undef) (by simp only [List.getElem?_toArray, List.getElem?_cons_succ, List.getElem?_cons_zero]; rfl) (by kernel_rfl) (by kernel_rfl) (by kernel_rfl) (by intro _ _ _ h; exact h) (Or.inr ⟨by rfl, rfl⟩) hHeld ?_
                        try simp only [Act.put, List.setIfInBounds_toArray, List.set_cons_zero, List.set_cons_succ]
                        refine wpAnyH_take (i := 20) (v := undef) (by simp only [List.getElem?_toArray, List.getElem?_cons_succ, List.getElem?_cons_zero]; rfl) (by kernel_rfl) (by kernel_rfl) (by kernel_rfl) (by intro _ _ _ h; exact h) (Or.inr ⟨by rfl, rfl⟩) hHeld ?_
                        try simp only [Act.put, List.setIfInBounds_toArray, List.set_cons_zero, List.set_cons_succ]
                        refine wpAnyH_take (i := 21) (v := undef) (by simp only [List.getElem?_toArray, List.getElem?_cons_succ, List.getElem?_cons_zero]; rfl) (by kernel_rfl) (by kernel_rfl) (by kernel_rfl) (by intro _ _ _ h; exact h) (Or.inr ⟨by rfl, rfl⟩) hHeld ?_
                        try simp only [Act.put, List.setIfInBounds_toArray, List.set_cons_zero, List.set_cons_succ]
                        refine wpAnyH_take (i := 22) (v := undef) (by simp only [List.getElem?_toArray, List.getElem?_cons_succ, List.getElem?_cons_zero]; rfl) (by kernel_rfl) (by kernel_rfl) (by kernel_rfl) (by intro _ _ _ h; exact h) (Or.inr ⟨by rfl, rfl⟩) hHeld ?_
                        try simp only [Act.put, List.setIfInBounds_toArray, List.set_cons_zero, List.set_cons_succ]
                        refine wpAnyH_take (i := 23) (v := undef) (by simp only [List.getElem?_toArray, List.getElem?_cons_succ, List.getElem?_cons_zero]; rfl) (by kernel_rfl) (by kernel_rfl) (by kernel_rfl) (by intro _ _ _ h; exact h) (Or.inr ⟨by rfl, rfl⟩) hHeld ?_
                        try simp only [Act.put, List.setIfInBounds_toArray, List.set_cons_zero, List.set_cons_succ]
                        refine wpAnyH_take (i := 24) (v := undef) (by simp only [List.getElem?_toArray, List.getElem?_cons_succ, List.getElem?_cons_zero]; rfl) (by kernel_rfl) (by kernel_rfl) (by kernel_rfl) (by intro _ _ _ h; exact h) (Or.inr ⟨by rfl, rfl⟩) hHeld ?_
                        try simp only [Act.put, List.setIfInBounds_toArray, List.set_cons_zero, List.set_cons_succ]
                        refine wpAnyH_take (i := 25) (v := undef) (by simp only [List.getElem?_toArray, List.getElem?_cons_succ, List.getElem?_cons_zero]; rfl) (by kernel_rfl) (by kernel_rfl) (by kernel_rfl) (by intro _ _ _ h; exact h) (Or.inr ⟨by rfl, rfl⟩) hHeld ?_
                        try simp only [Act.put, List.setIfInBounds_toArray, List.set_cons_zero, List.set_cons_succ]
                        refine wpAnyH_take (i := 26) (v := undef) (by simp only [List.getElem?_toArray, List.getElem?_cons_succ, List.getElem?_cons_zero]; rfl) (by kernel_rfl) (by kernel_rfl) (by kernel_rfl) (by intro _ _ _ h; exact h) (Or.inr ⟨by rfl, rfl⟩) hHeld ?_
                        try simp only [Act.put, List.setIfInBounds_toArray, List.set_cons_zero, List.set_cons_succ]
                        refine wpAnyH_take (i := 27) (v := undef) (by simp only [List.getElem?_toArray, List.getElem?_cons_succ, List.getElem?_cons_zero]; rfl) (by kernel_rfl) (by kernel_rfl) (by kernel_rfl) (by intro _ _ _ h; exact h) (Or.inr ⟨by rfl, rfl⟩) hHeld ?_
                        try simp only [Act.put, List.setIfInBounds_toArray, List.set_cons_zero, List.set_cons_succ]
                        refine wpAnyH_take (i := 28) (v := undef) (by simp only [List.getElem?_toArray, List.getElem?_cons_succ, List.getElem?_cons_zero]; rfl) (by kernel_rfl) (by kernel_rfl) (by kernel_rfl) (by intro _ _ _ h; exact h) (Or.inr ⟨by rfl, rfl⟩) hHeld ?_
                        try simp only [Act.put, List.setIfInBounds_toArray, List.set_cons_zero, List.set_cons_succ]
                        refine wpAnyH_take (i := 29) (v := ?_) (by simp only [List.getElem?_toArray, List.getElem?_cons_succ, List.getElem?_cons_zero]; rfl) (by kernel_rfl) (by kernel_rfl) (by kernel_rfl) (by intro _ _ _ h; exact h) (Or.inl ⟨by rfl, ?_⟩) hHeld ?_
                        rotate_left 1
                        · intro wq hSw
                          try dsimp only at hSw
                          go_simp
                          try (with_reducible rfl)
                        try simp only [Act.put, List.setIfInBounds_toArray, List.set_cons_zero, List.set_cons_succ]
                        refine wpAnyH_take (i := 30) (v := ?_) (by simp only [List.getElem?_toArray, List.getElem?_cons_succ, List.getElem?_cons_zero]; rfl) (by kernel_rfl) (by kernel_rfl) (by kernel_rfl) (by intro _ _ _ h; exact h) (Or.inl ⟨by rfl, ?_⟩) hHeld ?_
                        rotate_left 1
                        · intro wq hSw
                          try dsimp only at hSw
                          go_simp
                          try (with_reducible rfl)
                        try simp only [Act.put, List.setIfInBounds_toArray, List.set_cons_zero, List.set_cons_succ]
                        refine wpAnyH_take (i := 31) (v := undef) (by simp only [List.getElem?_toArray, List.getElem?_cons_succ, List.getElem?_cons_zero]; rfl) (by kernel_rfl) (by kernel_rfl) (by kernel_rfl) (by intro _ _ _ h; exact h) (Or.inr ⟨by rfl, rfl⟩) hHeld ?_
                        try simp only [Act.put, List.setIfInBounds_toArray, List.set_cons_zero, List.set_cons_succ]
                        refine wpAnyH_take (i := 32) (v := undef) (by simp only [List.getElem?_toArray, List.getElem?_cons_succ, List.getElem?_cons_zero]; rfl) (by kernel_rfl) (by kernel_rfl) (by kernel_rfl) (by intro _ _ _ h; exact h) (Or.inr ⟨by rfl, rfl⟩) hHeld ?_
                        try simp only [Act.put, List.setIfInBounds_toArray, List.set_cons_zero, List.set_cons_succ]
                        refine wpAnyH_take (i := 33) (v := undef) (by simp only [List.getElem?_toArray, List.getElem?_cons_succ, List.getElem?_cons_zero]; rfl) (by kernel_rfl) (by kernel_rfl) (by kernel_rfl) (by intro _ _ _ h; exact h) (Or.inr ⟨by rfl, rfl⟩) hHeld ?_
                        try simp only [Act.put, List.setIfInBounds_toArray, List.set_cons_zero, List.set_cons_succ]
                        refine wpAnyH_take (i := 34) (v := undef) (by simp only [List.getElem?_toArray, List.getElem?_cons_succ, List.getElem?_cons_zero]; rfl) (by kernel_rfl) (by kernel_rfl) (by kernel_rfl) (by intro _ _ _ h; exact h) (Or.inr ⟨by rfl, rfl⟩) hHeld ?_
                        try simp only [Act.put, List.setIfInBounds_toArray, List.set_cons_zero, List.set_cons_succ]
                        refine wpAnyH_take (i := 35) (v := undef) (by simp only [List.getElem?_toArray, List.getElem?_cons_succ, List.getElem?_cons_zero]; rfl) (by kernel_rfl) (by kernel_rfl) (by kernel_rfl) (by intro _ _ _ h; exact h) (Or.inr ⟨by rfl, rfl⟩) hHeld ?_
                        try simp only [Act.put, List.setIfInBounds_toArray, List.set_cons_zero, List.set_cons_succ]
                        refine wpAnyH_take (i := 36) (v := undef) (by simp only [List.getElem?_toArray, List.getElem?_cons_succ, List.getElem?_cons_zero]; rfl) (by kernel_rfl) (by kernel_rfl) (by kernel_rfl) (by intro _ _ _ h; exact h) (Or.inr ⟨by rfl, rfl⟩) hHeld ?_
                        try simp only [Act.put, List.setIfInBounds_toArray, List.set_cons_zero, List.set_cons_succ]
                        refine wpAnyH_take (i := 37) (v := undef) (by simp only [List.getElem?_toArray, List.getElem?_cons_succ, List.getElem?_cons_zero]; rfl) (by kernel_rfl) (by kernel_rfl) (by kernel_rfl) (by intro _ _ _ h; exact h) (Or.inr ⟨by rfl, rfl⟩) hHeld ?_
                        try simp only [Act.put, List.setIfInBounds_toArray, List.set_cons_zero, List.set_cons_succ]
                        refine wpAnyH_take (i := 38) (v := undef) (by simp only [List.getElem?_toArray, List.getElem?_cons_succ, List.getElem?_cons_zero]; rfl) (by kernel_rfl) (by kernel_rfl) (by kernel_rfl) (by intro _ _ _ h; exact h) (Or.inr ⟨by rfl, rfl⟩) hHeld ?_
                        try simp only [Act.put, List.setIfInBounds_toArray, List.set_cons_zero, List.set_cons_succ]
                        refine wpAnyH_take (i := 39) (v := undef) (by simp only [List.getElem?_toArray, List.getElem?_cons_succ, List.getElem?_cons_zero]; rfl) (by kernel_rfl) (by kernel_rfl) (by kernel_rfl) (by intro _ _ _ h; exact h) (Or.inr ⟨by rfl, rfl⟩) hHeld ?_
                        try simp only [Act.put, List.setIfInBounds_toArray, List.set_cons_zero, List.set_cons_succ]
                        refine wpAnyH_take (i := 40) (v := undef) (by simp only [List.getElem?_toArray, List.getElem?_cons_succ, List.getElem?_cons_zero]; rfl) (by kernel_rfl) (by kernel_rfl) (by kernel_rfl) (by intro _ _ _ h; exact h) (Or.inr ⟨by rfl, rfl⟩) hHeld ?_
                        try simp only [Act.put, List.setIfInBounds_toArray, List.set_cons_zero, List.set_cons_succ]
                        refine wpAnyH_take (i := 41) (v := undef) (by simp only [List.getElem?_toArray, List.getElem?_cons_succ, List.getElem?_cons_zero]; rfl) (by kernel_rfl) (by kernel_rfl) (by kernel_rfl) (by intro _ _ _ h; exact h) (Or.inr ⟨by rfl, rfl⟩) hHeld ?_
                        try simp only [Act.put, List.setIfInBounds_toArray, List.set_cons_zero, List.set_cons_succ]
                        refine wpAnyH_take (i := 42) (v := ?_) (by simp only [List.getElem?_toArray, List.getElem?_cons_succ, List.getElem?_cons_zero]; rfl) (by kernel_rfl) (by kernel_rfl) (by kernel_rfl) (by intro _ _ _ h; exact h) (Or.inl ⟨by rfl, ?_⟩) hHeld ?_
                        rotate_left 1
                        · intro wq hSw
                          try dsimp only at hSw
                          go_simp
                          try (with_reducible rfl)
                        try simp only [Act.put, List.setIfInBounds_toArray, List.set_cons_zero, List.set_cons_succ]
                        refine wpAnyH_done (by kernel_rfl) ?_ _
                        clear hHeld
                        go_wp2
                        go_roundg g
                        case measure => omega
                        case rel => exact ⟨j + 1, q, by omega, by first | rfl | (simp; done) | (simp; exact wrap64_small (by omega) (by omega)), by first | rfl | (simp; done) | (simp; exact wrap64_small (by omega) (by omega)), hcn, br.trans ((bd.trans (b9.mono bd.size)).mono br.size)⟩
                    | true =>
                      by_cases hzn : f.zn = f2.zn
                      · by_cases hat : f.at_ = f2.at_
                        · exfalso
                          apply hne
                          obtain ⟨⟨fk, fs, fl_⟩, fz, fa⟩ := f
                          obtain ⟨⟨gk_, gs_, gl_⟩, gz, ga⟩ := f2
                          simp only [sameR, decide_eq_true_eq] at hsm hzn hat
                          obtain ⟨rfl, rfl, rfl⟩ := hsm
                          subst hzn hat
                          rfl
                        · clear hne
                          as_aux_lemma =>
                            go_wp2_with fail
                            refine wp_region_held_drew (S := fun w' => Below wr.heap.size wr w') (by kernel_rfl) (Below.refl _ _).drew (fun hHeld => ?_)
                            try dsimp only at hHeld
                            have bd : Below wr.heap.size wr wr.drew := (Below.refl wr.heap.size wr).drew
                            generalize wr.drew = wd at *
                            try simp only [Act.put, List.setIfInBounds_toArray, List.set_cons_zero, List.set_cons_succ]
                            refine wpAnyH_take (i := 0) (v := ?_) (by simp only [List.getElem?_toArray, List.getElem?_cons_zero]; rfl) (by kernel_rfl) (by kernel_rfl) (by kernel_rfl) (by intro _ _ _ h; exact h) (Or.inl ⟨by rfl, ?_⟩) hHeld ?_
                            rotate_left 1
                            · intro wq hSw
                              try dsimp only at hSw
                              go_simp
                              try (with_reducible rfl)
                            try simp only [Act.put, List.setIfInBounds_toArray, List.set_cons_zero, List.set_cons_succ]
                            refine wpAnyH_take (i := 1) (v := ?_) (by simp only [List.getElem?_toArray, List.getElem?_cons_succ, List.getElem?_cons_zero]; rfl) (by kernel_rfl) (by kernel_rfl) (by kernel_rfl) (by intro _ _ _ h; exact h) (Or.inl ⟨by rfl, ?_⟩) hHeld ?_
                            rotate_left 1
                            · intro wq hSw
                              try dsimp only at hSw
                              go_simp
                              try (with_reducible rfl)
                            try simp only [Act.put, List.setIfInBounds_toArray, List.set_cons_zero, List.set_cons_succ]
                            refine wpAnyH_take (i := 2) (v := ?_) (by simp only [List.getElem?_toArray, List.getElem?_cons_succ, List.getElem?_cons_zero]; rfl) (by kernel_rfl) (by kernel_rfl) (by kernel_rfl) (by intro _ _ _ h; exact h) (Or.inl ⟨by rfl, ?_⟩) hHeld ?_
                            rotate_left 1
                            · intro wq hSw
                              try dsimp only at hSw
                              go_simp
                              try (with_reducible rfl)
                            try simp only [Act.put, List.setIfInBounds_toArray, List.set_cons_zero, List.set_cons_succ]
                            refine wpAnyH_take (i := 3) (v := .bool true) (by simp only [List.getElem?_toArray, List.getElem?_cons_succ, List.getElem?_cons_zero]; rfl) (by kernel_rfl) (by kernel_rfl) (by kernel_rfl) (by intro _ _ _ h; exact h) (Or.inl ⟨by rfl, ?_⟩) hHeld ?_
                            · intro wq hSw
                              try dsimp only at hSw
                              go_simp
                              all_goals (first | (with_reducible rfl) | omega | (simp; done) | (simp; omega))
                            try simp only [Act.put, List.setIfInBounds_toArray, List.set_cons_zero, List.set_cons_succ]
                            refine wpAnyH_take (i := 4) (v := ?_) (by simp only [List.getElem?_toArray, List.getElem?_cons_succ, List.getElem?_cons_zero]; rfl) (by kernel_rfl) (by kernel_rfl) (by kernel_rfl) (by intro _ _ _ h; exact h) (Or.inl ⟨by rfl, ?_⟩) hHeld ?_
                            rotate_left 1
                            · intro wq hSw
                              try dsimp only at hSw
                              go_simp
                              try (with_reducible rfl)
                            try simp only [Act.put, List.setIfInBounds_toArray, List.set_cons_zero, List.set_cons_succ]
                            refine wpAnyH_take (i := 5) (v := ?_) (by simp only [List.getElem?_toArray, List.getElem?_cons_succ, List.getElem?_cons_zero]; rfl) (by kernel_rfl) (by kernel_rfl) (by kernel_rfl) (by intro _ _ _ h; exact h) (Or.inl ⟨by rfl, ?_⟩) hHeld ?_
                            rotate_left 1
                            · intro wq hSw
                              try dsimp only at hSw
                              go_simp
                              try (with_reducible rfl)
                            try simp only [Act.put, List.setIfInBounds_toArray, List.set_cons_zero, List.set_cons_succ]
                            refine wpAnyH_take (i := 6) (v := ?_) (by simp only [List.getElem?_toArray, List.getElem?_cons_succ, List.getElem?_cons_zero]; rfl) (by kernel_rfl) (by kernel_rfl) (by kernel_rfl) (by intro _ _ _ h; exact h) (Or.inl ⟨by rfl, ?_⟩) hHeld ?_
                            rotate_left 1
                            · intro wq hSw
                              try dsimp only at hSw
                              go_simp
                              try (with_reducible rfl)
                            try simp only [Act.put, List.setIfInBounds_toArray, List.set_cons_zero, List.set_cons_succ]
                            refine wpAnyH_take (i := 7) (v := .pointer (some ⟨gf, of_ + j * 5, none⟩)) (by simp only [List.getElem?_toArray, List.getElem?_cons_succ, List.getElem?_cons_zero]; rfl) (by kernel_rfl) (by kernel_rfl) (by kernel_rfl) (by intro _ _ _ h; exact h) (Or.inl ⟨by rfl, ?_⟩) hHeld ?_
                            · intro wq hSw
                              try dsimp only at hSw
                              go_simp
                              all_goals (first | (with_reducible rfl) | (intro hh; exfalso; omega))
                            try simp only [Act.put, List.setIfInBounds_toArray, List.set_cons_zero, List.set_cons_succ]
                            refine wpAnyH_take (i := 8) (v := ?_) (by simp only [List.getElem?_toArray, List.getElem?_cons_succ, List.getElem?_cons_zero]; rfl) (by kernel_rfl) (by kernel_rfl) (by kernel_rfl) (by intro _ _ _ h; exact h) (Or.inl ⟨by rfl, ?_⟩) hHeld ?_
                            rotate_left 1
                            · intro wq hSw
                              try dsimp only at hSw
                              go_simp
                              try (with_reducible rfl)
                            try simp only [Act.put, List.setIfInBounds_toArray, List.set_cons_zero, List.set_cons_succ]
                            refine wpAnyH_take (i := 9) (v := ?_) (by simp only [List.getElem?_toArray, List.getElem?_cons_succ, List.getElem?_cons_zero]; rfl) (by kernel_rfl) (by kernel_rfl) (by kernel_rfl) (by intro _ _ _ h; exact h) (Or.inl ⟨by rfl, ?_⟩) hHeld ?_
                            rotate_left 1
                            · intro wq hSw
                              try dsimp only at hSw
                              have x0 := (hSw.cell hgfr).trans y0
                              have x1 := (hSw.cell hgfr).trans y1
                              have x2 := (hSw.cell hgfr).trans y2
                              go_simp
                              try (with_reducible rfl)
                            try simp only [Act.put, List.setIfInBounds_toArray, List.set_cons_zero, List.set_cons_succ]
                            refine wpAnyH_take (i := 10) (v := ?_) (by simp only [List.getElem?_toArray, List.getElem?_cons_succ, List.getElem?_cons_zero]; rfl) (by kernel_rfl) (by kernel_rfl) (by kernel_rfl) (by intro _ _ _ h; exact h) (Or.inl ⟨by rfl, ?_⟩) hHeld ?_
                            rotate_left 1
                            · intro wq hSw
                              try dsimp only at hSw
                              go_simp
                              try (with_reducible rfl)
                            try simp only [Act.put, List.setIfInBounds_toArray, List.set_cons_zero, List.set_cons_succ]
                            refine wpAnyH_take (i := 11) (v := ?_) (by simp only [List.getElem?_toArray, List.getElem?_cons_succ, List.getElem?_cons_zero]; rfl) (by kernel_rfl) (by kernel_rfl) (by kernel_rfl) (by intro _ _ _ h; exact h) (Or.inl ⟨by rfl, ?_⟩) hHeld ?_
                            rotate_left 1
                            · intro wq hSw
                              try dsimp only at hSw
                              go_simp
                              try (with_reducible rfl)
                            try simp only [Act.put, List.setIfInBounds_toArray, List.set_cons_zero, List.set_cons_succ]
                            refine wpAnyH_take (i := 12) (v := .pointer (some ⟨gs, os_ + q * 5, none⟩)) (by simp only [List.getElem?_toArray, List.getElem?_cons_succ, List.getElem?_cons_zero]; rfl) (by kernel_rfl) (by kernel_rfl) (by kernel_rfl) (by intro _ _ _ h; exact h) (Or.inl ⟨by rfl, ?_⟩) hHeld ?_
                            · intro wq hSw
                              try dsimp only at hSw
                              go_simp
                              all_goals (first | (with_reducible rfl) | (intro hh; exfalso; omega))
                            try simp only [Act.put, List.setIfInBounds_toArray, List.set_cons_zero, List.set_cons_succ]
                            refine wpAnyH_take (i := 13) (v := ?_) (by simp only [List.getElem?_toArray, List.getElem?_cons_succ, List.getElem?_cons_zero]; rfl) (by kernel_rfl) (by kernel_rfl) (by kernel_rfl) (by intro _ _ _ h; exact h) (Or.inl ⟨by rfl, ?_⟩) hHeld ?_
                            rotate_left 1
                            · intro wq hSw
                              try dsimp only at hSw
                              go_simp
                              try (with_reducible rfl)
                            try simp only [Act.put, List.setIfInBounds_toArray, List.set_cons_zero, List.set_cons_succ]
                            refine wpAnyH_take (i := 14) (v := ?_) (by simp only [List.getElem?_toArray, List.getElem?_cons_succ, List.getElem?_cons_zero]; rfl) (by kernel_rfl) (by kernel_rfl) (by kernel_rfl) (by intro _ _ _ h; exact h) (Or.inl ⟨by rfl, ?_⟩) hHeld ?_
                            rotate_left 1
                            · intro wq hSw
                              try dsimp only at hSw
                              have x0 := (hSw.cell hgsr).trans z0
                              have x1 := (hSw.cell hgsr).trans z1
                              have x2 := (hSw.cell hgsr).trans z2
                              go_simp
                              try (with_reducible rfl)
                            try simp only [Act.put, List.setIfInBounds_toArray, List.set_cons_zero, List.set_cons_succ]
                            refine wpAnyH_ready (rs := [15]) (by kernel_rfl) (by simp) ?_
                            refine AllReadyH.cons (by simp only [List.getElem?_toArray, List.getElem?_cons_succ, List.getElem?_cons_zero]; rfl) (fun K hK => ?_) AllReadyH.nil
                            have hC := recSame_any f.r.k f.r.s Af f.r.l.length cf f.r.l f2.r.k f2.r.s A2 f2.r.l.length c2_ f2.r.l wd (hSf.below (br.trans (bd.mono br.size))) (hS2.below (br.trans (bd.mono br.size)))
                            rw [hsm] at hC
                            go_simp
                            refine hC.mono ?_
                            clear hC
                            rintro e v4 ⟨rfl, b9⟩
                            go_wp2_with fail
                            refine hK.out _ _ (bd.trans (b9.mono bd.size)) (fun hHeld => ?_)
                            clear hK K
                            try dsimp only at hHeld
                            try simp only [Act.put, List.setIfInBounds_toArray, List.set_cons_zero, List.set_cons_succ]
                            refine wpAnyH_take (i := 16) (v := ?_) (by simp only [List.getElem?_toArray, List.getElem?_cons_succ, List.getElem?_cons_zero]; rfl) (by kernel_rfl) (by kernel_rfl) (by kernel_rfl) (by intro _ _ _ h; exact h) (Or.inl ⟨by rfl, ?_⟩) hHeld ?_
                            rotate_left 1
                            · intro wq hSw
                              try dsimp only at hSw
                              go_simp
                              try (with_reducible rfl)
                            try simp only [Act.put, List.setIfInBounds_toArray, List.set_cons_zero, List.set_cons_succ]
                            refine wpAnyH_take (i := 17) (v := ?_) (by simp only [List.getElem?_toArray, List.getElem?_cons_succ, List.getElem?_cons_zero]; rfl) (by kernel_rfl) (by kernel_rfl) (by kernel_rfl) (by intro _ _ _ h; exact h) (Or.inl ⟨by rfl, ?_⟩) hHeld ?_
                            rotate_left 1
                            · intro wq hSw
                              try dsimp only at hSw
                              go_simp
                              try (with_reducible rfl)
                            try simp only [Act.put, List.setIfInBounds_toArray, List.set_cons_zero, List.set_cons_succ]
                            refine wpAnyH_take (i := 18) (v := ?_) (by simp only [List.getElem?_toArray, List.getElem?_cons_succ, List.getElem?_cons_zero]; rfl) (by kernel_rfl) (by kernel_rfl) (by kernel_rfl) (by intro _ _ _ h; exact h) (Or.inl ⟨by rfl, ?_⟩) hHeld ?_
                            rotate_left 1
                            · intro wq hSw
                              try dsimp only at hSw
                              go_simp
                              try (with_reducible rfl)
                            try simp only [Act.put, List.setIfInBounds_toArray, List.set_cons_zero, List.set_cons_succ]
                            refine wpAnyH_take (i := 19) (v := ?_) (by simp only [List.getElem?_toArray, List.getElem?_cons_succ, List.getElem?_cons_zero]; rfl) (by kernel_rfl) (by kernel_rfl) (by kernel_rfl) (by intro _ _ _ h; exact h) (Or.inl ⟨by rfl, ?_⟩) hHeld ?_
                            rotate_left 1
                            · intro wq hSw
                              try dsimp only at hSw
                              go_simp
                              try (with_reducible rfl)
                            try simp only [Act.put, List.setIfInBounds_toArray, List.set_cons_zero, List.set_cons_succ]
                            refine wpAnyH_take (i := 20) (v := .pointer (some ⟨gf, of_ + j * 5, none⟩)) (by simp only [List.getElem?_toArray, List.getElem?_cons_succ, List.getElem?_cons_zero]; rfl) (by kernel_rfl) (by kernel_rfl) (by kernel_rfl) (by intro _ _ _ h; exact h) (Or.inl ⟨by rfl, ?_⟩) hHeld ?_
                            · intro wq hSw
                              try dsimp only at hSw
                              go_simp
                              all_goals (first | (with_reducible rfl) | (intro hh; exfalso; omega))
                            try simp only [Act.put, List.setIfInBounds_toArray, List.set_cons_zero, List.set_cons_succ]
                            refine wpAnyH_take (i := 21) (v := ?_) (by simp only [List.getElem?_toArray, List.getElem?_cons_succ, List.getElem?_cons_zero]; rfl) (by kernel_rfl) (by kernel_rfl) (by kernel_rfl) (by intro _ _ _ h; exact h) (Or.inl ⟨by rfl, ?_⟩) hHeld ?_
                            rotate_left 1
                            · intro wq hSw
                              try dsimp only at hSw
                              go_simp
                              try (with_reducible rfl)
                            try simp only [Act.put, List.setIfInBounds_toArray, List.set_cons_zero, List.set_cons_succ]
                            refine wpAnyH_take (i := 22) (v := ?_) (by simp only [List.getElem?_toArray, List.getElem?_cons_succ, List.getElem?_cons_zero]; rfl) (by kernel_rfl) (by kernel_rfl) (by kernel_rfl) (by intro _ _ _ h; exact h) (Or.inl ⟨by rfl, ?_⟩) hHeld ?_
                            rotate_left 1
                            · intro wq hSw
                              try dsimp only at hSw
                              have x0 := (hSw.cell hgfr).trans y3
                              go_simp
                              try (with_reducible rfl)
                            try simp only [Act.put, List.setIfInBounds_toArray, List.set_cons_zero, List.set_cons_succ]
                            refine wpAnyH_take (i := 23) (v := ?_) (by simp only [List.getElem?_toArray, List.getElem?_cons_succ, List.getElem?_cons_zero]; rfl) (by kernel_rfl) (by kernel_rfl) (by kernel_rfl) (by intro _ _ _ h; exact h) (Or.inl ⟨by rfl, ?_⟩) hHeld ?_
                            rotate_left 1
                            · intro wq hSw
                              try dsimp only at hSw
                              go_simp
                              try (with_reducible rfl)
                            try simp only [Act.put, List.setIfInBounds_toArray, List.set_cons_zero, List.set_cons_succ]
                            refine wpAnyH_take (i := 24) (v := ?_) (by simp only [List.getElem?_toArray, List.getElem?_cons_succ, List.getElem?_cons_zero]; rfl) (by kernel_rfl) (by kernel_rfl) (by kernel_rfl) (by intro _ _ _ h; exact h) (Or.inl ⟨by rfl, ?_⟩) hHeld ?_
                            rotate_left 1
                            · intro wq hSw
                              try dsimp only at hSw
                              go_simp
                              try (with_reducible rfl)
                            try simp only [Act.put, List.setIfInBounds_toArray, List.set_cons_zero, List.set_cons_succ]
                            refine wpAnyH_take (i := 25) (v := .pointer (some ⟨gs, os_ + q * 5, none⟩)) (by simp only [List.getElem?_toArray, List.getElem?_cons_succ, List.getElem?_cons_zero]; rfl) (by kernel_rfl) (by kernel_rfl) (by kernel_rfl) (by intro _ _ _ h; exact h) (Or.inl ⟨by rfl, ?_⟩) hHeld ?_
                            · intro wq hSw
                              try dsimp only at hSw
                              go_simp
                              all_goals (first | (with_reducible rfl) | (intro hh; exfalso; omega))
                            try simp only [Act.put, List.setIfInBounds_toArray, List.set_cons_zero, List.set_cons_succ]
                            refine wpAnyH_take (i := 26) (v := ?_) (by simp only [List.getElem?_toArray, List.getElem?_cons_succ, List.getElem?_cons_zero]; rfl) (by kernel_rfl) (by kernel_rfl) (by kernel_rfl) (by intro _ _ _ h; exact h) (Or.inl ⟨by rfl, ?_⟩) hHeld ?_
                            rotate_left 1
                            · intro wq hSw
                              try dsimp only at hSw
                              go_simp
                              try (with_reducible rfl)
                            try simp only [Act.put, List.setIfInBounds_toArray, List.set_cons_zero, List.set_cons_succ]
                            refine wpAnyH_take (i := 27) (v := ?_) (by simp only [List.getElem?_toArray, List.getElem?_cons_succ, List.getElem?_cons_zero]; rfl) (by kernel_rfl) (by kernel_rfl) (by kernel_rfl) (by intro _ _ _ h; exact h) (Or.inl ⟨by rfl, ?_⟩) hHeld ?_
                            rotate_left 1
                            · intro wq hSw
                              try dsimp only at hSw
                              have x0 := (hSw.cell hgsr).trans z3
                              go_simp
                              try (with_reducible rfl)
                            try simp only [Act.put, List.setIfInBounds_toArray, List.set_cons_zero, List.set_cons_succ]
                            refine wpAnyH_take (i := 28) (v := .bool true) (by simp only [List.getElem?_toArray, List.getElem?_cons_succ, List.getElem?_cons_zero]; rfl) (by kernel_rfl) (by kernel_rfl) (by kernel_rfl) (by intro _ _ _ h; exact h) (Or.inl ⟨by rfl, ?_⟩) hHeld ?_
                            · intro wq hSw
                              try dsimp only at hSw
                              go_simp
                              all_goals (first | (with_reducible rfl) | (simp [hzn]; done) | (simpa using hzn) | (simp; done))
                            try simp only [Act.put, List.setIfInBounds_toArray, List.set_cons_zero, List.set_cons_succ]
                            refine wpAnyH_take (i := 29) (v := ?_) (by simp only [List.getElem?_toArray, List.getElem?_cons_succ, List.getElem?_cons_zero]; rfl) (by kernel_rfl) (by kernel_rfl) (by kernel_rfl) (by intro _ _ _ h; exact h) (Or.inl ⟨by rfl, ?_⟩) hHeld ?_
                            rotate_left 1
                            · intro wq hSw
                              try dsimp only at hSw
                              go_simp
                              try (with_reducible rfl)
                            try simp only [Act.put, List.setIfInBounds_toArray, List.set_cons_zero, List.set_cons_succ]
                            refine wpAnyH_take (i := 30) (v := ?_) (by simp only [List.getElem?_toArray, List.getElem?_cons_succ, List.getElem?_cons_zero]; rfl) (by kernel_rfl) (by kernel_rfl) (by kernel_rfl) (by intro _ _ _ h; exact h) (Or.inl ⟨by rfl, ?_⟩) hHeld ?_
                            rotate_left 1
                            · intro wq hSw
                              try dsimp only at hSw
                              go_simp
                              try (with_reducible rfl)
                            try simp only [Act.put, List.setIfInBounds_toArray, List.set_cons_zero, List.set_cons_succ]
                            refine wpAnyH_take (i := 31) (v := ?_) (by simp only [List.getElem?_toArray, List.getElem?_cons_succ, List.getElem?_cons_zero]; rfl) (by kernel_rfl) (by kernel_rfl) (by kernel_rfl) (by intro _ _ _ h; exact h) (Or.inl ⟨by rfl, ?_⟩) hHeld ?_
                            rotate_left 1
                            · intro wq hSw
                              try dsimp only at hSw
                              go_simp
                              try (with_reducible rfl)
                            try simp only [Act.put, List.setIfInBounds_toArray, List.set_cons_zero, List.set_cons_succ]
                            refine wpAnyH_take (i := 32) (v := ?_) (by simp only [List.getElem?_toArray, List.getElem?_cons_succ, List.getElem?_cons_zero]; rfl) (by kernel_rfl) (by kernel_rfl) (by kernel_rfl) (by intro _ _ _ h; exact h) (Or.inl ⟨by rfl, ?_⟩) hHeld ?_
                            rotate_left 1
                            · intro wq hSw
                              try dsimp only at hSw
                              go_simp
                              try (with_reducible rfl)
                            try simp only [Act.put, List.setIfInBounds_toArray, List.set_cons_zero, List.set_cons_succ]
                            refine wpAnyH_take (i := 33) (v := .pointer (some ⟨gf, of_ + j * 5, none⟩)) (by simp only [List.getElem?_toArray, List.getElem?_cons_succ, List.getElem?_cons_zero]; rfl) (by kernel_rfl) (by kernel_rfl) (by kernel_rfl) (by intro _ _ _ h; exact h) (Or.inl ⟨by rfl, ?_⟩) hHeld ?_
                            · intro wq hSw
                              try dsimp only at hSw
                              go_simp
                              all_goals (first | (with_reducible rfl) | (intro hh; exfalso; omega))
                            try simp only [Act.put, List.setIfInBounds_toArray, List.set_cons_zero, List.set_cons_succ]
                            refine wpAnyH_take (i := 34) (v := ?_) (by simp only [List.getElem?_toArray, List.getElem?_cons_succ, List.getElem?_cons_zero]; rfl) (by kernel_rfl) (by kernel_rfl) (by kernel_rfl) (by intro _ _ _ h; exact h) (Or.inl ⟨by rfl, ?_⟩) hHeld ?_
                            rotate_left 1
                            · intro wq hSw
                              try dsimp only at hSw
                              go_simp
                              try (with_reducible rfl)
                            try simp only [Act.put, List.setIfInBounds_toArray, List.set_cons_zero, List.set_cons_succ]
                            refine wpAnyH_take (i := 35) (v := ?_) (by simp only [List.getElem?_toArray, List.getElem?_cons_succ, List.getElem?_cons_zero]; rfl) (by kernel_rfl) (by kernel_rfl) (by kernel_rfl) (by intro _ _ _ h; exact h) (Or.inl ⟨by rfl, ?_⟩) hHeld ?_
                            rotate_left 1
                            · intro wq hSw
                              try dsimp only at hSw
                              have x0 := (hSw.cell hgfr).trans y4
                              go_simp
                              try (with_reducible rfl)
                            try simp only [Act.put, List.setIfInBounds_toArray, List.set_cons_zero, List.set_cons_succ]
                            refine wpAnyH_take (i := 36) (v := ?_) (by simp only [List.getElem?_toArray, List.getElem?_cons_succ, List.getElem?_cons_zero]; rfl) (by kernel_rfl) (by kernel_rfl) (by kernel_rfl) (by intro _ _ _ h; exact h) (Or.inl ⟨by rfl, ?_⟩) hHeld ?_
                            rotate_left 1
                            · intro wq hSw
                              try dsimp only at hSw
                              go_simp
                              try (with_reducible rfl)
                            try simp only [Act.put, List.setIfInBounds_toArray, List.set_cons_zero, List.set_cons_succ]
                            refine wpAnyH_take (i := 37) (v := ?_) (by simp only [List.getElem?_toArray, List.getElem?_cons_succ, List.getElem?_cons_zero]; rfl) (by kernel_rfl) (by kernel_rfl) (by kernel_rfl) (by intro _ _ _ h; exact h) (Or.inl ⟨by rfl, ?_⟩) hHeld ?_
                            rotate_left 1
                            · intro wq hSw
                              try dsimp only at hSw
                              go_simp
                              try (with_reducible rfl)
                            try simp only [Act.put, List.setIfInBounds_toArray, List.set_cons_zero, List.set_cons_succ]
                            refine wpAnyH_take (i := 38) (v := .pointer (some ⟨gs, os_ + q * 5, none⟩)) (by simp only [List.getElem?_toArray, List.getElem?_cons_succ, List.getElem?_cons_zero]; rfl) (by kernel_rfl) (by kernel_rfl) (by kernel_rfl) (by intro _ _ _ h; exact h) (Or.inl ⟨by rfl, ?_⟩) hHeld ?_
                            · intro wq hSw
                              try dsimp only at hSw
                              go_simp
                              all_goals (first | (with_reducible rfl) | (intro hh; exfalso; omega))
                            try simp only [Act.put, List.setIfInBounds_toArray, List.set_cons_zero, List.set_cons_succ]
                            refine wpAnyH_take (i := 39) (v := ?_) (by simp only [List.getElem?_toArray, List.getElem?_cons_succ, List.getElem?_cons_zero]; rfl) (by kernel_rfl) (by kernel_rfl) (by kernel_rfl) (by intro _ _ _ h; exact h) (Or.inl ⟨by rfl, ?_⟩) hHeld ?_
                            rotate_left 1
                            · intro wq hSw
                              try dsimp only at hSw
                              go_simp
                              try (with_reducible rfl)
                            try simp only [Act.put, List.setIfInBounds_toArray, List.set_cons_zero, List.set_cons_succ]
                            refine wpAnyH_take (i := 40) (v := ?_) (by simp only [List.getElem?_toArray, List.getElem?_cons_succ, List.getElem?_cons_zero]; rfl) (by kernel_rfl) (by kernel_rfl) (by kernel_rfl) (by intro _ _ _ h; exact h) (Or.inl ⟨by rfl, ?_⟩) hHeld ?_
                            rotate_left 1
                            · intro wq hSw
                              try dsimp only at hSw
                              have x0 := (hSw.cell hgsr).trans z4
                              go_simp
                              try (with_reducible rfl)
                            try simp only [Act.put, List.setIfInBounds_toArray, List.set_cons_zero, List.set_cons_succ]
                            refine wpAnyH_take (i := 41) (v := .bool false) (by simp only [List.getElem?_toArray, List.getElem?_cons_succ, List.getElem?_cons_zero]; rfl) (by kernel_rfl) (by kernel_rfl) (by kernel_rfl) (by intro _ _ _ h; exact h) (Or.inl ⟨by rfl, ?_⟩) hHeld ?_
                            · intro wq hSw
                              try dsimp only at hSw
                              go_simp
                              all_goals (first | (with_reducible rfl) | (simp [hat]; done) | (simpa using hat) | (simp; done))
                            try simp only [Act.put, List.setIfInBounds_toArray, List.set_cons_zero, List.set_cons_succ]
                            refine wpAnyH_take (i := 42) (v := ?_) (by simp only [List.getElem?_toArray, List.getElem?_cons_succ, List.getElem?_cons_zero]; rfl) (by kernel_rfl) (by kernel_rfl) (by kernel_rfl) (by intro _ _ _ h; exact h) (Or.inl ⟨by rfl, ?_⟩) hHeld ?_
                            rotate_left 1
                            · intro wq hSw
                              try dsimp only at hSw
                              go_simp
                              try (with_reducible rfl)
                            try simp only [Act.put, List.setIfInBounds_toArray, List.set_cons_zero, List.set_cons_succ]
                            refine wpAnyH_done (by kernel_rfl) ?_ _
                            clear hHeld
                            go_wp2
                            go_roundg g
                            case measure => omega
                            case rel => exact ⟨j + 1, q, by omega, by first | rfl | (simp; done) | (simp; exact wrap64_small (by omega) (by omega)), by first | rfl | (simp; done) | (simp; exact wrap64_small (by omega) (by omega)), hcn, br.trans ((bd.trans (b9.mono bd.size)).mono br.size)⟩
                      · clear hne
                        as_aux_lemma =>
                          go_wp2_with fail
                          refine wp_region_held_drew (S := fun w' => Below wr.heap.size wr w') (by kernel_rfl) (Below.refl _ _).drew (fun hHeld => ?_)
                          try dsimp only at hHeld
                          have bd : Below wr.heap.size wr wr.drew := (Below.refl wr.heap.size wr).drew
                          generalize wr.drew = wd at *
                          try simp only [Act.put, List.setIfInBounds_toArray, List.set_cons_zero, List.set_cons_succ]
                          refine wpAnyH_take (i := 0) (v := ?_) (by simp only [List.getElem?_toArray, List.getElem?_cons_zero]; rfl) (by kernel_rfl) (by kernel_rfl) (by kernel_rfl) (by intro _ _ _ h; exact h) (Or.inl ⟨by rfl, ?_⟩) hHeld ?_
                          rotate_left 1
                          · intro wq hSw
                            try dsimp only at hSw
                            go_simp
                            try (with_reducible rfl)
                          try simp only [Act.put, List.setIfInBounds_toArray, List.set_cons_zero, List.set_cons_succ]
                          refine wpAnyH_take (i := 1) (v := ?_) (by simp only [List.getElem?_toArray, List.getElem?_cons_succ, List.getElem?_cons_zero]; rfl) (by kernel_rfl) (by kernel_rfl) (by kernel_rfl) (by intro _ _ _ h; exact h) (Or.inl ⟨by rfl, ?_⟩) hHeld ?_
                          rotate_left 1
                          · intro wq hSw
                            try dsimp only at hSw
                            go_simp
                            try (with_reducible rfl)
                          try simp only [Act.put, List.setIfInBounds_toArray, List.set_cons_zero, List.set_cons_succ]
                          refine wpAnyH_take (i := 2) (v := ?_) (by simp only [List.getElem?_toArray, List.getElem?_cons_succ, List.getElem?_cons_zero]; rfl) (by kernel_rfl) (by kernel_rfl) (by kernel_rfl) (by intro _ _ _ h; exact h) (Or.inl ⟨by rfl, ?_⟩) hHeld ?_
                          rotate_left 1
                          · intro wq hSw
                            try dsimp only at hSw
                            go_simp
                            try (with_reducible rfl)
                          try simp only [Act.put, List.setIfInBounds_toArray, List.set_cons_zero, List.set_cons_succ]
                          refine wpAnyH_take (i := 3) (v := .bool true) (by simp only [List.getElem?_toArray, List.getElem?_cons_succ, List.getElem?_cons_zero]; rfl) (by kernel_rfl) (by kernel_rfl) (by kernel_rfl) (by intro _ _ _ h; exact h) (Or.inl ⟨by rfl, ?_⟩) hHeld ?_
                          · intro wq hSw
                            try dsimp only at hSw
                            go_simp
                            all_goals (first | (with_reducible rfl) | omega | (simp; done) | (simp; omega))
                          try simp only [Act.put, List.setIfInBounds_toArray, List.set_cons_zero, List.set_cons_succ]
                          refine wpAnyH_take (i := 4) (v := ?_) (by simp only [List.getElem?_toArray, List.getElem?_cons_succ, List.getElem?_cons_zero]; rfl) (by kernel_rfl) (by kernel_rfl) (by kernel_rfl) (by intro _ _ _ h; exact h) (Or.inl ⟨by rfl, ?_⟩) hHeld ?_
                          rotate_left 1
                          · intro wq hSw
                            try dsimp only at hSw
                            go_simp
                            try (with_reducible rfl)
                          try simp only [Act.put, List.setIfInBounds_toArray, List.set_cons_zero, List.set_cons_succ]
                          refine wpAnyH_take (i := 5) (v := ?_) (by simp only [List.getElem?_toArray, List.getElem?_cons_succ, List.getElem?_cons_zero]; rfl) (by kernel_rfl) (by kernel_rfl) (by kernel_rfl) (by intro _ _ _ h; exact h) (Or.inl ⟨by rfl, ?_⟩) hHeld ?_
                          rotate_left 1
                          · intro wq hSw
                            try dsimp only at hSw
                            go_simp
                            try (with_reducible rfl)
                          try simp only [Act.put, List.setIfInBounds_toArray, List.set_cons_zero, List.set_cons_succ]
                          refine wpAnyH_take (i := 6) (v := ?_) (by simp only [List.getElem?_toArray, List.getElem?_cons_succ, List.getElem?_cons_zero]; rfl) (by kernel_rfl) (by kernel_rfl) (by kernel_rfl) (by intro _ _ _ h; exact h) (Or.inl ⟨by rfl, ?_⟩) hHeld ?_
                          rotate_left 1
                          · intro wq hSw
                            try dsimp only at hSw
                            go_simp
                            try (with_reducible rfl)
                          try simp only [Act.put, List.setIfInBounds_toArray, List.set_cons_zero, List.set_cons_succ]
                          refine wpAnyH_take (i := 7) (v := .pointer (some ⟨gf, of_ + j * 5, none⟩)) (by simp only [List.getElem?_toArray, List.getElem?_cons_succ, List.getElem?_cons_zero]; rfl) (by kernel_rfl) (by kernel_rfl) (by kernel_rfl) (by intro _ _ _ h; exact h) (Or.inl ⟨by rfl, ?_⟩) hHeld ?_
                          · intro wq hSw
                            try dsimp only at hSw
                            go_simp
                            all_goals (first | (with_reducible rfl) | (intro hh; exfalso; omega))
                          try simp only [Act.put, List.setIfInBounds_toArray, List.set_cons_zero, List.set_cons_succ]
                          refine wpAnyH_take (i := 8) (v := ?_) (by simp only [List.getElem?_toArray, List.getElem?_cons_succ, List.getElem?_cons_zero]; rfl) (by kernel_rfl) (by kernel_rfl) (by kernel_rfl) (by intro _ _ _ h; exact h) (Or.inl ⟨by rfl, ?_⟩) hHeld ?_
                          rotate_left 1
                          · intro wq hSw
                            try dsimp only at hSw
                            go_simp
                            try (with_reducible rfl)
                          try simp only [Act.put, List.setIfInBounds_toArray, List.set_cons_zero, List.set_cons_succ]
                          refine wpAnyH_take (i := 9) (v := ?_) (by simp only [List.getElem?_toArray, List.getElem?_cons_succ, List.getElem?_cons_zero]; rfl) (by kernel_rfl) (by kernel_rfl) (by kernel_rfl) (by intro _ _ _ h; exact h) (Or.inl ⟨by rfl, ?_⟩) hHeld ?_
                          rotate_left 1
                          · intro wq hSw
                            try dsimp only at hSw
                            have x0 := (hSw.cell hgfr).trans y0
                            have x1 := (hSw.cell hgfr).trans y1
                            have x2 := (hSw.cell hgfr).trans y2
                            go_simp
                            try (with_reducible rfl)
                          try simp only [Act.put, List.setIfInBounds_toArray, List.set_cons_zero, List.set_cons_succ]
                          refine wpAnyH_take (i := 10) (v := ?_) (by simp only [List.getElem?_toArray, List.getElem?_cons_succ, List.getElem?_cons_zero]; rfl) (by kernel_rfl) (by kernel_rfl) (by kernel_rfl) (by intro _ _ _ h; exact h) (Or.inl ⟨by rfl, ?_⟩) hHeld ?_
                          rotate_left 1
                          · intro wq hSw
                            try dsimp only at hSw
                            go_simp
                            try (with_reducible rfl)
                          try simp only [Act.put, List.setIfInBounds_toArray, List.set_cons_zero, List.set_cons_succ]
                          refine wpAnyH_take (i := 11) (v := ?_) (by simp only [List.getElem?_toArray, List.getElem?_cons_succ, List.getElem?_cons_zero]; rfl) (by kernel_rfl) (by kernel_rfl) (by kernel_rfl) (by intro _ _ _ h; exact h) (Or.inl ⟨by rfl, ?_⟩) hHeld ?_
                          rotate_left 1
                          · intro wq hSw
                            try dsimp only at hSw
                            go_simp
                            try (with_reducible rfl)
                          try simp only [Act.put, List.setIfInBounds_toArray, List.set_cons_zero, List.set_cons_succ]
                          refine wpAnyH_take (i := 12) (v := .pointer (some ⟨gs, os_ + q * 5, none⟩)) (by simp only [List.getElem?_toArray, List.getElem?_cons_succ, List.getElem?_cons_zero]; rfl) (by kernel_rfl) (by kernel_rfl) (by kernel_rfl) (by intro _ _ _ h; exact h) (Or.inl ⟨by rfl, ?_⟩) hHeld ?_
                          · intro wq hSw
                            try dsimp only at hSw
                            go_simp
                            all_goals (first | (with_reducible rfl) | (intro hh; exfalso; omega))
                          try simp only [Act.put, List.setIfInBounds_toArray, List.set_cons_zero, List.set_cons_succ]
                          refine wpAnyH_take (i := 13) (v := ?_) (by simp only [List.getElem?_toArray, List.getElem?_cons_succ, List.getElem?_cons_zero]; rfl) (by kernel_rfl) (by kernel_rfl) (by kernel_rfl) (by intro _ _ _ h; exact h) (Or.inl ⟨by rfl, ?_⟩) hHeld ?_
                          rotate_left 1
                          · intro wq hSw
                            try dsimp only at hSw
                            go_simp
                            try (with_reducible rfl)
                          try simp only [Act.put, List.setIfInBounds_toArray, List.set_cons_zero, List.set_cons_succ]
                          refine wpAnyH_take (i := 14) (v := ?_) (by simp only [List.getElem?_toArray, List.getElem?_cons_succ, List.getElem?_cons_zero]; rfl) (by kernel_rfl) (by kernel_rfl) (by kernel_rfl) (by intro _ _ _ h; exact h) (Or.inl ⟨by rfl, ?_⟩) hHeld ?_
                          rotate_left 1
                          · intro wq hSw
                            try dsimp only at hSw
                            have x0 := (hSw.cell hgsr).trans z0
                            have x1 := (hSw.cell hgsr).trans z1
                            have x2 := (hSw.cell hgsr).trans z2
                            go_simp
                            try (with_reducible rfl)
                          try simp only [Act.put, List.setIfInBounds_toArray, List.set_cons_zero, List.set_cons_succ]
                          refine wpAnyH_ready (rs := [15]) (by kernel_rfl) (by simp) ?_
                          refine AllReadyH.cons (by simp only [List.getElem?_toArray, List.getElem?_cons_succ, List.getElem?_cons_zero]; rfl) (fun K hK => ?_) AllReadyH.nil
                          have hC := recSame_any f.r.k f.r.s Af f.r.l.length cf f.r.l f2.r.k f2.r.s A2 f2.r.l.length c2_ f2.r.l wd (hSf.below (br.trans (bd.mono br.size))) (hS2.below (br.trans (bd.mono br.size)))
                          rw [hsm] at hC
                          go_simp
                          refine hC.mono ?_
                          clear hC
                          rintro e v4 ⟨rfl, b9⟩
                          go_wp2_with fail
                          refine hK.out _ _ (bd.trans (b9.mono bd.size)) (fun hHeld => ?_)
                          clear hK K
                          try dsimp only at hHeld
                          try simp only [Act.put, List.setIfInBounds_toArray, List.set_cons_zero, List.set_cons_succ]
                          refine wpAnyH_take (i := 16) (v := ?_) (by simp only [List.getElem?_toArray, List.getElem?_cons_succ, List.getElem?_cons_zero]; rfl) (by kernel_rfl) (by kernel_rfl) (by kernel_rfl) (by intro _ _ _ h; exact h) (Or.inl ⟨by rfl, ?_⟩) hHeld ?_
                          rotate_left 1
                          · intro wq hSw
                            try dsimp only at hSw
                            go_simp
                            try (with_reducible rfl)
                          try simp only [Act.put, List.setIfInBounds_toArray, List.set_cons_zero, List.set_cons_succ]
                          refine wpAnyH_take (i := 17) (v := ?_) (by simp only [List.getElem?_toArray, List.getElem?_cons_succ, List.getElem?_cons_zero]; rfl) (by kernel_rfl) (by kernel_rfl) (by kernel_rfl) (by intro _ _ _ h; exact h) (Or.inl ⟨by rfl, ?_⟩) hHeld ?_
                          rotate_left 1
                          · intro wq hSw
                            try dsimp only at hSw
                            go_simp
                            try (with_reducible rfl)
                          try simp only [Act.put, List.setIfInBounds_toArray, List.set_cons_zero, List.set_cons_succ]
                          refine wpAnyH_take (i := 18) (v := ?_) (by simp only [List.getElem?_toArray, List.getElem?_cons_succ, List.getElem?_cons_zero]; rfl) (by kernel_rfl) (by kernel_rfl) (by kernel_rfl) (by intro _ _ _ h; exact h) (Or.inl ⟨by rfl, ?_⟩) hHeld ?_
                          rotate_left 1
                          · intro wq hSw
                            try dsimp only at hSw
                            go_simp
                            try (with_reducible rfl)
                          try simp only [Act.put, List.setIfInBounds_toArray, List.set_cons_zero, List.set_cons_succ]
                          refine wpAnyH_take (i := 19) (v := ?_) (by simp only [List.getElem?_toArray, List.getElem?_cons_succ, List.getElem?_cons_zero]; rfl) (by kernel_rfl) (by kernel_rfl) (by kernel_rfl) (by intro _ _ _ h; exact h) (Or.inl ⟨by rfl, ?_⟩) hHeld ?_
                          rotate_left 1
                          · intro wq hSw
                            try dsimp only at hSw
                            go_simp
                            try (with_reducible rfl)
                          try simp only [Act.put, List.setIfInBounds_toArray, List.set_cons_zero, List.set_cons_succ]
                          refine wpAnyH_take (i := 20) (v := .pointer (some ⟨gf, of_ + j * 5, none⟩)) (by simp only [List.getElem?_toArray, List.getElem?_cons_succ, List.getElem?_cons_zero]; rfl) (by kernel_rfl) (by kernel_rfl) (by kernel_rfl) (by intro _ _ _ h; exact h) (Or.inl ⟨by rfl, ?_⟩) hHeld ?_
                          · intro wq hSw
                            try dsimp only at hSw
                            go_simp
                            all_goals (first | (with_reducible rfl) | (intro hh; exfalso; omega))
                          try simp only [Act.put, List.setIfInBounds_toArray, List.set_cons_zero, List.set_cons_succ]
                          refine wpAnyH_take (i := 21) (v := ?_) (by simp only [List.getElem?_toArray, List.getElem?_cons_succ, List.getElem?_cons_zero]; rfl) (by kernel_rfl) (by kernel_rfl) (by kernel_rfl) (by intro _ _ _ h; exact h) (Or.inl ⟨by rfl, ?_⟩) hHeld ?_
                          rotate_left 1
                          · intro wq hSw
                            try dsimp only at hSw
                            go_simp
                            try (with_reducible rfl)
                          try simp only [Act.put, List.setIfInBounds_toArray, List.set_cons_zero, List.set_cons_succ]
                          refine wpAnyH_take (i := 22) (v := ?_) (by simp only [List.getElem?_toArray, List.getElem?_cons_succ, List.getElem?_cons_zero]; rfl) (by kernel_rfl) (by kernel_rfl) (by kernel_rfl) (by intro _ _ _ h; exact h) (Or.inl ⟨by rfl, ?_⟩) hHeld ?_
                          rotate_left 1
                          · intro wq hSw
                            try dsimp only at hSw
                            have x0 := (hSw.cell hgfr).trans y3
                            go_simp
                            try (with_reducible rfl)
                          try simp only [Act.put, List.setIfInBounds_toArray, List.set_cons_zero, List.set_cons_succ]
                          refine wpAnyH_take (i := 23) (v := ?_) (by simp only [List.getElem?_toArray, List.getElem?_cons_succ, List.getElem?_cons_zero]; rfl) (by kernel_rfl) (by kernel_rfl) (by kernel_rfl) (by intro _ _ _ h; exact h) (Or.inl ⟨by rfl, ?_⟩) hHeld ?_
                          rotate_left 1
                          · intro wq hSw
                            try dsimp only at hSw
                            go_simp
                            try (with_reducible rfl)
                          try simp only [Act.put, List.setIfInBounds_toArray, List.set_cons_zero, List.set_cons_succ]
                          refine wpAnyH_take (i := 24) (v := ?_) (by simp only [List.getElem?_toArray, List.getElem?_cons_succ, List.getElem?_cons_zero]; rfl) (by kernel_rfl) (by kernel_rfl) (by kernel_rfl) (by intro _ _ _ h; exact h) (Or.inl ⟨by rfl, ?_⟩) hHeld ?_
                          rotate_left 1
                          · intro wq hSw
                            try dsimp only at hSw
                            go_simp
                            try (with_reducible rfl)
                          try simp only [Act.put, List.setIfInBounds_toArray, List.set_cons_zero, List.set_cons_succ]
                          refine wpAnyH_take (i := 25) (v := .pointer (some ⟨gs, os_ + q * 5, none⟩)) (by simp only [List.getElem?_toArray, List.getElem?_cons_succ, List.getElem?_cons_zero]; rfl) (by kernel_rfl) (by kernel_rfl) (by kernel_rfl) (by intro _ _ _ h; exact h) (Or.inl ⟨by rfl, ?_⟩) hHeld ?_
                          · intro wq hSw
                            try dsimp only at hSw
                            go_simp
                            all_goals (first | (with_reducible rfl) | (intro hh; exfalso; omega))
                          try simp only [Act.put, List.setIfInBounds_toArray, List.set_cons_zero, List.set_cons_succ]
                          refine wpAnyH_take (i := 26) (v := ?_) (by simp only [List.getElem?_toArray, List.getElem?_cons_succ, List.getElem?_cons_zero]; rfl) (by kernel_rfl) (by kernel_rfl) (by kernel_rfl) (by intro _ _ _ h; exact h) (Or.inl ⟨by rfl, ?_⟩) hHeld ?_
                          rotate_left 1
                          · intro wq hSw
                            try dsimp only at hSw
                            go_simp
                            try (with_reducible rfl)
                          try simp only [Act.put, List.setIfInBounds_toArray, List.set_cons_zero, List.set_cons_succ]
                          refine wpAnyH_take (i := 27) (v := ?_) (by simp only [List.getElem?_toArray, List.getElem?_cons_succ, List.getElem?_cons_zero]; rfl) (by kernel_rfl) (by kernel_rfl) (by kernel_rfl) (by intro _ _ _ h; exact h) (Or.inl ⟨by rfl, ?_⟩) hHeld ?_
                          rotate_left 1
                          · intro wq hSw
                            try dsimp only at hSw
                            have x0 := (hSw.cell hgsr).trans z3
                            go_simp
                            try (with_reducible rfl)
                          try simp only [Act.put, List.setIfInBounds_toArray, List.set_cons_zero, List.set_cons_succ]
                          refine wpAnyH_take (i := 28) (v := .bool false) (by simp only [List.getElem?_toArray, List.getElem?_cons_succ, List.getElem?_cons_zero]; rfl) (by kernel_rfl) (by kernel_rfl) (by kernel_rfl) (by intro _ _ _ h; exact h) (Or.inl ⟨by rfl, ?_⟩) hHeld ?_
                          · intro wq hSw
                            try dsimp only at hSw
                            go_simp
                            all_goals (first | (with_reducible rfl) | (simp [hzn]; done) | (simpa using hzn) | (simp; done))
                          try simp only [Act.put, List.setIfInBounds_toArray, List.set_cons_zero, List.set_cons_succ]
                          refine wpAnyH_take (i := 29) (v := ?_) (by simp only [List.getElem?_toArray, List.getElem?_cons_succ, List.getElem?_cons_zero]; rfl) (by kernel_rfl) (by kernel_rfl) (by kernel_rfl) (by intro _ _ _ h; exact h) (Or.inl ⟨by rfl, ?_⟩) hHeld ?_
                          rotate_left 1
                          · intro wq hSw
                            try dsimp only at hSw
                            go_simp
                            try (with_reducible rfl)
                          try simp only [Act.put, List.setIfInBounds_toArray, List.set_cons_zero, List.set_cons_succ]
                          refine wpAnyH_take (i := 30) (v := ?_) (by simp only [List.getElem?_toArray, List.getElem?_cons_succ, List.getElem?_cons_zero]; rfl) (by kernel_rfl) (by kernel_rfl) (by kernel_rfl) (by intro _ _ _ h; exact h) (Or.inl ⟨by rfl, ?_⟩) hHeld ?_
                          rotate_left 1
                          · intro wq hSw
                            try dsimp only at hSw
                            go_simp
                            try (with_reducible rfl)
                          try simp only [Act.put, List.setIfInBounds_toArray, List.set_cons_zero, List.set_cons_succ]
                          refine wpAnyH_take (i := 31) (v := undef) (by simp only [List.getElem?_toArray, List.getElem?_cons_succ, List.getElem?_cons_zero]; rfl) (by kernel_rfl) (by kernel_rfl) (by kernel_rfl) (by intro _ _ _ h; exact h) (Or.inr ⟨by rfl, rfl⟩) hHeld ?_
                          try simp only [Act.put, List.setIfInBounds_toArray, List.set_cons_zero, List.set_cons_succ]
                          refine wpAnyH_take (i := 32) (v := undef) (by simp only [List.getElem?_toArray, List.getElem?_cons_succ, List.getElem?_cons_zero]; rfl) (by kernel_rfl) (by kernel_rfl) (by kernel_rfl) (by intro _ _ _ h; exact h) (Or.inr ⟨by rfl, rfl⟩) hHeld ?_
                          try simp only [Act.put, List.setIfInBounds_toArray, List.set_cons_zero, List.set_cons_succ]
                          refine wpAnyH_take (i := 33) (v := undef) (by simp only [List.getElem?_toArray, List.getElem?_cons_succ, List.getElem?_cons_zero]; rfl) (by kernel_rfl) (by kernel_rfl) (by kernel_rfl) (by intro _ _ _ h; exact h) (Or.inr ⟨by rfl, rfl⟩) hHeld ?_
                          try simp only [Act.put, List.setIfInBounds_toArray, List.set_cons_zero, List.set_cons_succ]
                          refine wpAnyH_take (i := 34) (v := undef) (by simp only [List.getElem?_toArray, List.getElem?_cons_succ, List.getElem?_cons_zero]; rfl) (by kernel_rfl) (by kernel_rfl) (by kernel_rfl) (by intro _ _ _ h; exact h) (Or.inr ⟨by rfl, rfl⟩) hHeld ?_
                          try simp only [Act.put, List.setIfInBounds_toArray, List.set_cons_zero, List.set_cons_succ]
                          refine wpAnyH_take (i := 35) (v := undef) (by simp only [List.getElem?_toArray, List.getElem?_cons_succ, List.getElem?_cons_zero]; rfl) (by kernel_rfl) (by kernel_rfl) (by kernel_rfl) (by intro _ _ _ h; exact h) (Or.inr ⟨by rfl, rfl⟩) hHeld ?_
                          try simp only [Act.put, List.setIfInBounds_toArray, List.set_cons_zero, List.set_cons_succ]
                          refine wpAnyH_take (i := 36) (v := undef) (by simp only [List.getElem?_toArray, List.getElem?_cons_succ, List.getElem?_cons_zero]; rfl) (by kernel_rfl) (by kernel_rfl) (by kernel_rfl) (by intro _ _ _ h; exact h) (Or.inr ⟨by rfl, rfl⟩) hHeld ?_
                          try simp only [Act.put, List.setIfInBounds_toArray, List.set_cons_zero, List.set_cons_succ]
                          refine wpAnyH_take (i := 37) (v := undef) (by simp only [List.getElem?_toArray, List.getElem?_cons_succ, List.getElem?_cons_zero]; rfl) (by kernel_rfl) (by kernel_rfl) (by kernel_rfl) (by intro _ _ _ h; exact h) (Or.inr ⟨by rfl, rfl⟩) hHeld ?_
                          try simp only [Act.put, List.setIfInBounds_toArray, List.set_cons_zero, List.set_cons_succ]
                          refine wpAnyH_take (i := 38) (v := undef) (by simp only [List.getElem?_toArray, List.getElem?_cons_succ, List.getElem?_cons_zero]; rfl) (by kernel_rfl) (by kernel_rfl) (by kernel_rfl) (by intro _ _ _ h; exact h) (Or.inr ⟨by rfl, rfl⟩) hHeld ?_
                          try simp only [Act.put, List.setIfInBounds_toArray, List.set_cons_zero, List.set_cons_succ]
                          refine wpAnyH_take (i := 39) (v := undef) (by simp only [List.getElem?_toArray, List.getElem?_cons_succ, List.getElem?_cons_zero]; rfl) (by kernel_rfl) (by kernel_rfl) (by kernel_rfl) (by intro _ _ _ h; exact h) (Or.inr ⟨by rfl, rfl⟩) hHeld ?_
                          try simp only [Act.put, List.setIfInBounds_toArray, List.set_cons_zero, List.set_cons_succ]
                          refine wpAnyH_take (i := 40) (v := undef) (by simp only [List.getElem?_toArray, List.getElem?_cons_succ, List.getElem?_cons_zero]; rfl) (by kernel_rfl) (by kernel_rfl) (by kernel_rfl) (by intro _ _ _ h; exact h) (Or.inr ⟨by rfl, rfl⟩) hHeld ?_
                          try simp only [Act.put, List.setIfInBounds_toArray, List.set_cons_zero, List.set_cons_succ]
                          refine wpAnyH_take (i := 41) (v := undef) (by simp only [List.getElem?_toArray, List.getElem?_cons_succ, List.getElem?_cons_zero]; rfl) (by kernel_rfl) (by kernel_rfl) (by kernel_rfl) (by intro _ _ _ h; exact h) (Or.inr ⟨by rfl, rfl⟩) hHeld ?_
                          try simp only [Act.put, List.setIfInBounds_toArray, List.set_cons_zero, List.set_cons_succ]
                          refine wpAnyH_take (i := 42) (v := ?_) (by simp only [List.getElem?_toArray, List.getElem?_cons_succ, List.getElem?_cons_zero]; rfl) (by kernel_rfl) (by kernel_rfl) (by kernel_rfl) (by intro _ _ _ h; exact h) (Or.inl ⟨by rfl, ?_⟩) hHeld ?_
                          rotate_left 1
                          · intro wq hSw
                            try dsimp only at hSw
                            go_simp
                            try (with_reducible rfl)
                          try simp only [Act.put, List.setIfInBounds_toArray, List.set_cons_zero, List.set_cons_succ]
                          refine wpAnyH_done (by kernel_rfl) ?_ _
                          clear hHeld
                          go_wp2
                          go_roundg g
                          case measure => omega
                          case rel => exact ⟨j + 1, q, by omega, by first | rfl | (simp; done) | (simp; exact wrap64_small (by omega) (by omega)), by first | rfl | (simp; done) | (simp; exact wrap64_small (by omega) (by omega)), hcn, br.trans ((bd.trans (b9.mono bd.size)).mono br.size)⟩
                  · clear hp hfj
                    as_aux_lemma =>
                      go_wp2_with fail
                      refine wp_region_held_drew (S := fun w' => Below wr.heap.size wr w') (by kernel_rfl) (Below.refl _ _).drew (fun hHeld => ?_)
                      try dsimp only at hHeld
                      have bd : Below wr.heap.size wr wr.drew := (Below.refl wr.heap.size wr).drew
                      generalize wr.drew = wd at *
                      try simp only [Act.put, List.setIfInBounds_toArray, List.set_cons_zero, List.set_cons_succ]
                      refine wpAnyH_take (i := 0) (v := ?_) (by simp only [List.getElem?_toArray, List.getElem?_cons_zero]; rfl) (by kernel_rfl) (by kernel_rfl) (by kernel_rfl) (by intro _ _ _ h; exact h) (Or.inl ⟨by rfl, ?_⟩) hHeld ?_
                      rotate_left 1
                      · intro wq hSw
                        try dsimp only at hSw
                        go_simp
                        try (with_reducible rfl)
                      try simp only [Act.put, List.setIfInBounds_toArray, List.set_cons_zero, List.set_cons_succ]
                      refine wpAnyH_take (i := 1) (v := ?_) (by simp only [List.getElem?_toArray, List.getElem?_cons_succ, List.getElem?_cons_zero]; rfl) (by kernel_rfl) (by kernel_rfl) (by kernel_rfl) (by intro _ _ _ h; exact h) (Or.inl ⟨by rfl, ?_⟩) hHeld ?_
                      rotate_left 1
                      · intro wq hSw
                        try dsimp only at hSw
                        go_simp
                        try (with_reducible rfl)
                      try simp only [Act.put, List.setIfInBounds_toArray, List.set_cons_zero, List.set_cons_succ]
                      refine wpAnyH_take (i := 2) (v := ?_) (by simp only [List.getElem?_toArray, List.getElem?_cons_succ, List.getElem?_cons_zero]; rfl) (by kernel_rfl) (by kernel_rfl) (by kernel_rfl) (by intro _ _ _ h; exact h) (Or.inl ⟨by rfl, ?_⟩) hHeld ?_
                      rotate_left 1
                      · intro wq hSw
                        try dsimp only at hSw
                        go_simp
                        try (with_reducible rfl)
                      try simp only [Act.put, List.setIfInBounds_toArray, List.set_cons_zero, List.set_cons_succ]
                      refine wpAnyH_take (i := 3) (v := .bool false) (by simp only [List.getElem?_toArray, List.getElem?_cons_succ, List.getElem?_cons_zero]; rfl) (by kernel_rfl) (by kernel_rfl) (by kernel_rfl) (by intro _ _ _ h; exact h) (Or.inl ⟨by rfl, ?_⟩) hHeld ?_
                      · intro wq hSw
                        try dsimp only at hSw
                        go_simp
                        all_goals (first | (with_reducible rfl) | omega | (simp; done) | (simp; omega))
                      try simp only [Act.put, List.setIfInBounds_toArray, List.set_cons_zero, List.set_cons_succ]
                      refine wpAnyH_take (i := 4) (v := ?_) (by simp only [List.getElem?_toArray, List.getElem?_cons_succ, List.getElem?_cons_zero]; rfl) (by kernel_rfl) (by kernel_rfl) (by kernel_rfl) (by intro _ _ _ h; exact h) (Or.inl ⟨by rfl, ?_⟩) hHeld ?_
                      rotate_left 1
                      · intro wq hSw
                        try dsimp only at hSw
                        go_simp
                        try (with_reducible rfl)
                      try simp only [Act.put, List.setIfInBounds_toArray, List.set_cons_zero, List.set_cons_succ]
                      refine wpAnyH_take (i := 5) (v := undef) (by simp only [List.getElem?_toArray, List.getElem?_cons_succ, List.getElem?_cons_zero]; rfl) (by kernel_rfl) (by kernel_rfl) (by kernel_rfl) (by intro _ _ _ h; exact h) (Or.inr ⟨by rfl, rfl⟩) hHeld ?_
                      try simp only [Act.put, List.setIfInBounds_toArray, List.set_cons_zero, List.set_cons_succ]
                      refine wpAnyH_take (i := 6) (v := undef) (by simp only [List.getElem?_toArray, List.getElem?_cons_succ, List.getElem?_cons_zero]; rfl) (by kernel_rfl) (by kernel_rfl) (by kernel_rfl) (by intro _ _ _ h; exact h) (Or.inr ⟨by rfl, rfl⟩) hHeld ?_
                      try simp only [Act.put, List.setIfInBounds_toArray, List.set_cons_zero, List.set_cons_succ]
                      refine wpAnyH_take (i := 7) (v := undef) (by simp only [List.getElem?_toArray, List.getElem?_cons_succ, List.getElem?_cons_zero]; rfl) (by kernel_rfl) (by kernel_rfl) (by kernel_rfl) (by intro _ _ _ h; exact h) (Or.inr ⟨by rfl, rfl⟩) hHeld ?_
                      try simp only [Act.put, List.setIfInBounds_toArray, List.set_cons_zero, List.set_cons_succ]
                      refine wpAnyH_take (i := 8) (v := undef) (by simp only [List.getElem?_toArray, List.getElem?_cons_succ, List.getElem?_cons_zero]; rfl) (by kernel_rfl) (by kernel_rfl) (by kernel_rfl) (by intro _ _ _ h; exact h) (Or.inr ⟨by rfl, rfl⟩) hHeld ?_
                      try simp only [Act.put, List.setIfInBounds_toArray, List.set_cons_zero, List.set_cons_succ]
                      refine wpAnyH_take (i := 9) (v := undef) (by simp only [List.getElem?_toArray, List.getElem?_cons_succ, List.getElem?_cons_zero]; rfl) (by kernel_rfl) (by kernel_rfl) (by kernel_rfl) (by intro _ _ _ h; exact h) (Or.inr ⟨by rfl, rfl⟩) hHeld ?_
                      try simp only [Act.put, List.setIfInBounds_toArray, List.set_cons_zero, List.set_cons_succ]
                      refine wpAnyH_take (i := 10) (v := undef) (by simp only [List.getElem?_toArray, List.getElem?_cons_succ, List.getElem?_cons_zero]; rfl) (by kernel_rfl) (by kernel_rfl) (by kernel_rfl) (by intro _ _ _ h; exact h) (Or.inr ⟨by rfl, rfl⟩) hHeld ?_
                      try simp only [Act.put, List.setIfInBounds_toArray, List.set_cons_zero, List.set_cons_succ]
                      refine wpAnyH_take (i := 11) (v := undef) (by simp only [List.getElem?_toArray, List.getElem?_cons_succ, List.getElem?_cons_zero]; rfl) (by kernel_rfl) (by kernel_rfl) (by kernel_rfl) (by intro _ _ _ h; exact h) (Or.inr ⟨by rfl, rfl⟩) hHeld ?_
                      try simp only [Act.put, List.setIfInBounds_toArray, List.set_cons_zero, List.set_cons_succ]
                      refine wpAnyH_take (i := 12) (v := undef) (by simp only [List.getElem?_toArray, List.getElem?_cons_succ, List.getElem?_cons_zero]; rfl) (by kernel_rfl) (by kernel_rfl) (by kernel_rfl) (by intro _ _ _ h; exact h) (Or.inr ⟨by rfl, rfl⟩) hHeld ?_
                      try simp only [Act.put, List.setIfInBounds_toArray, List.set_cons_zero, List.set_cons_succ]
                      refine wpAnyH_take (i := 13) (v := undef) (by simp only [List.getElem?_toArray, List.getElem?_cons_succ, List.getElem?_cons_zero]; rfl) (by kernel_rfl) (by kernel_rfl) (by kernel_rfl) (by intro _ _ _ h; exact h) (Or.inr ⟨by rfl, rfl⟩) hHeld ?_
                      try simp only [Act.put, List.setIfInBounds_toArray, List.set_cons_zero, List.set_cons_succ]
                      refine wpAnyH_take (i := 14) (v := undef) (by simp only [List.getElem?_toArray, List.getElem?_cons_succ, List.getElem?_cons_zero]; rfl) (by kernel_rfl) (by kernel_rfl) (by kernel_rfl) (by intro _ _ _ h; exact h) (Or.inr ⟨by rfl, rfl⟩) hHeld ?_
                      try simp only [Act.put, List.setIfInBounds_toArray, List.set_cons_zero, List.set_cons_succ]
                      refine wpAnyH_take (i := 15) (v := undef) (by simp only [List.getElem?_toArray, List.getElem?_cons_succ, List.getElem?_cons_zero]; rfl) (by kernel_rfl) (by kernel_rfl) (by kernel_rfl) (by intro _ _ _ h; exact h) (Or.inr ⟨by rfl, rfl⟩) hHeld ?_
                      try simp only [Act.put, List.setIfInBounds_toArray, List.set_cons_zero, List.set_cons_succ]
                      refine wpAnyH_take (i := 16) (v := ?_) (by simp only [List.getElem?_toArray, List.getElem?_cons_succ, List.getElem?_cons_zero]; rfl) (by kernel_rfl) (by kernel_rfl) (by kernel_rfl) (by intro _ _ _ h; exact h) (Or.inl ⟨by rfl, ?_⟩) hHeld ?_
                      rotate_left 1
                      · intro wq hSw
                        try dsimp only at hSw
                        go_simp
                        try (with_reducible rfl)
                      try simp only [Act.put, List.setIfInBounds_toArray, List.set_cons_zero, List.set_cons_succ]
                      refine wpAnyH_take (i := 17) (v := ?_) (by simp only [List.getElem?_toArray, List.getElem?_cons_succ, List.getElem?_cons_zero]; rfl) (by kernel_rfl) (by kernel_rfl) (by kernel_rfl) (by intro _ _ _ h; exact h) (Or.inl ⟨by rfl, ?_⟩) hHeld ?_
                      rotate_left 1
                      · intro wq hSw
                        try dsimp only at hSw
                        go_simp
                        try (with_reducible rfl)
                      try simp only [Act.put, List.setIfInBounds_toArray, List.set_cons_zero, List.set_cons_succ]
                      refine wpAnyH_take (i := 18) (v := undef) (by simp only [List.getElem?_toArray, List.getElem?_cons_succ, List.getElem?_cons_zero]; rfl) (by kernel_rfl) (by kernel_rfl) (by kernel_rfl) (by intro _ _ _ h; exact h) (Or.inr ⟨by rfl, rfl⟩) hHeld ?_
                      try simp only [Act.put, List.setIfInBounds_toArray, List.set_cons_zero, List.set_cons_succ]
                      refine wpAnyH_take (i := 19) (v := undef) (by simp only [List.getElem?_toArray, List.getElem?_cons_succ, List.getElem?_cons_zero]; rfl) (by kernel_rfl) (by kernel_rfl) (by kernel_rfl) (by intro _ _ _ h; exact h) (Or.inr ⟨by rfl, rfl⟩) hHeld ?_
                      try simp only [Act.put, List.setIfInBounds_toArray, List.set_cons_zero, List.set_cons_succ]
                      refine wpAnyH_take (i := 20) (v := undef) (by simp only [List.getElem?_toArray, List.getElem?_cons_succ, List.getElem?_cons_zero]; rfl) (by kernel_rfl) (by kernel_rfl) (by kernel_rfl) (by intro _ _ _ h; exact h) (Or.inr ⟨by rfl, rfl⟩) hHeld ?_
                      try simp only [Act.put, List.setIfInBounds_toArray, List.set_cons_zero, List.set_cons_succ]
                      refine wpAnyH_take (i := 21) (v := undef) (by simp only [List.getElem?_toArray, List.getElem?_cons_succ, List.getElem?_cons_zero]; rfl) (by kernel_rfl) (by kernel_rfl) (by kernel_rfl) (by intro _ _ _ h; exact h) (Or.inr ⟨by rfl, rfl⟩) hHeld ?_
                      try simp only [Act.put, List.setIfInBounds_toArray, List.set_cons_zero, List.set_cons_succ]
                      refine wpAnyH_take (i := 22) (v := undef) (by simp only [List.getElem?_toArray, List.getElem?_cons_succ, List.getElem?_cons_zero]; rfl) (by kernel_rfl) (by kernel_rfl) (by kernel_rfl) (by intro _ _ _ h; exact h) (Or.inr ⟨by rfl, rfl⟩) hHeld ?_
                      try simp only [Act.put, List.setIfInBounds_toArray, List.set_cons_zero, List.set_cons_succ]
                      refine wpAnyH_take (i := 23) (v := undef) (by simp only [List.getElem?_toArray, List.getElem?_cons_succ, List.getElem?_cons_zero]; rfl) (by kernel_rfl) (by kernel_rfl) (by kernel_rfl) (by intro _ _ _ h; exact h) (Or.inr ⟨by rfl, rfl⟩) hHeld ?_
                      try simp only [Act.put, List.setIfInBounds_toArray, List.set_cons_zero, List.set_cons_succ]
                      refine wpAnyH_take (i := 24) (v := undef) (by simp only [List.getElem?_toArray, List.getElem?_cons_succ, List.getElem?_cons_zero]; rfl) (by kernel_rfl) (by kernel_rfl) (by kernel_rfl) (by intro _ _ _ h; exact h) (Or.inr ⟨by rfl, rfl⟩) hHeld ?_
                      try simp only [Act.put, List.setIfInBounds_toArray, List.set_cons_zero, List.set_cons_succ]
                      refine wpAnyH_take (i := 25) (v := undef) (by simp only [List.getElem?_toArray, List.getElem?_cons_succ, List.getElem?_cons_zero]; rfl) (by kernel_rfl) (by kernel_rfl) (by kernel_rfl) (by intro _ _ _ h; exact h) (Or.inr ⟨by rfl, rfl⟩) hHeld ?_
                      try simp only [Act.put, List.setIfInBounds_toArray, List.set_cons_zero, List.set_cons_succ]
                      refine wpAnyH_take (i := 26) (v := undef) (by simp only [List.getElem?_toArray, List.getElem?_cons_succ, List.getElem?_cons_zero]; rfl) (by kernel_rfl) (by kernel_rfl) (by kernel_rfl) (by intro _ _ _ h; exact h) (Or.inr ⟨by rfl, rfl⟩) hHeld ?_
                      try simp only [Act.put, List.setIfInBounds_toArray, List.set_cons_zero, List.set_cons_succ]
                      refine wpAnyH_take (i := 27) (v := undef) (by simp only [List.getElem?_toArray, List.getElem?_cons_succ, List.getElem?_cons_zero]; rfl) (by kernel_rfl) (by kernel_rfl) (by kernel_rfl) (by intro _ _ _ h; exact h) (Or.inr ⟨by rfl, rfl⟩) hHeld ?_
                      try simp only [Act.put, List.setIfInBounds_toArray, List.set_cons_zero, List.set_cons_succ]
                      refine wpAnyH_take (i := 28) (v := undef) (by simp only [List.getElem?_toArray, List.getElem?_cons_succ, List.getElem?_cons_zero]; rfl) (by kernel_rfl) (by kernel_rfl) (by kernel_rfl) (by intro _ _ _ h; exact h) (Or.inr ⟨by rfl, rfl⟩) hHeld ?_
                      try simp only [Act.put, List.setIfInBounds_toArray, List.set_cons_zero, List.set_cons_succ]
                      refine wpAnyH_take (i := 29) (v := ?_) (by simp only [List.getElem?_toArray, List.getElem?_cons_succ, List.getElem?_cons_zero]; rfl) (by kernel_rfl) (by kernel_rfl) (by kernel_rfl) (by intro _ _ _ h; exact h) (Or.inl ⟨by rfl, ?_⟩) hHeld ?_
                      rotate_left 1
                      · intro wq hSw
                        try dsimp only at hSw
                        go_simp
                        try (with_reducible rfl)
                      try simp only [Act.put, List.setIfInBounds_toArray, List.set_cons_zero, List.set_cons_succ]
                      refine wpAnyH_take (i := 30) (v := ?_) (by simp only [List.getElem?_toArray, List.getElem?_cons_succ, List.getElem?_cons_zero]; rfl) (by kernel_rfl) (by kernel_rfl) (by kernel_rfl) (by intro _ _ _ h; exact h) (Or.inl ⟨by rfl, ?_⟩) hHeld ?_
                      rotate_left 1
                      · intro wq hSw
                        try dsimp only at hSw
                        go_simp
                        try (with_reducible rfl)
                      try simp only [Act.put, List.setIfInBounds_toArray, List.set_cons_zero, List.set_cons_succ]
                      refine wpAnyH_take (i := 31) (v := undef) (by simp only [List.getElem?_toArray, List.getElem?_cons_succ, List.getElem?_cons_zero]; rfl) (by kernel_rfl) (by kernel_rfl) (by kernel_rfl) (by intro _ _ _ h; exact h) (Or.inr ⟨by rfl, rfl⟩) hHeld ?_
                      try simp only [Act.put, List.setIfInBounds_toArray, List.set_cons_zero, List.set_cons_succ]
                      refine wpAnyH_take (i := 32) (v := undef) (by simp only [List.getElem?_toArray, List.getElem?_cons_succ, List.getElem?_cons_zero]; rfl) (by kernel_rfl) (by kernel_rfl) (by kernel_rfl) (by intro _ _ _ h; exact h) (Or.inr ⟨by rfl, rfl⟩) hHeld ?_
                      try simp only [Act.put, List.setIfInBounds_toArray, List.set_cons_zero, List.set_cons_succ]
                      refine wpAnyH_take (i := 33) (v := undef) (by simp only [List.getElem?_toArray, List.getElem?_cons_succ, List.getElem?_cons_zero]; rfl) (by kernel_rfl) (by kernel_rfl) (by kernel_rfl) (by intro _ _ _ h; exact h) (Or.inr ⟨by rfl, rfl⟩) hHeld ?_
                      try simp only [Act.put, List.setIfInBounds_toArray, List.set_cons_zero, List.set_cons_succ]
                      refine wpAnyH_take (i := 34) (v := undef) (by simp only [List.getElem?_toArray, List.getElem?_cons_succ, List.getElem?_cons_zero]; rfl) (by kernel_rfl) (by kernel_rfl) (by kernel_rfl) (by intro _ _ _ h; exact h) (Or.inr ⟨by rfl, rfl⟩) hHeld ?_
                      try simp only [Act.put, List.setIfInBounds_toArray, List.set_cons_zero, List.set_cons_succ]
                      refine wpAnyH_take (i := 35) (v := undef) (by simp only [List.getElem?_toArray, List.getElem?_cons_succ, List.getElem?_cons_zero]; rfl) (by kernel_rfl) (by kernel_rfl) (by kernel_rfl) (by intro _ _ _ h; exact h) (Or.inr ⟨by rfl, rfl⟩) hHeld ?_
                      try simp only [Act.put, List.setIfInBounds_toArray, List.set_cons_zero, List.set_cons_succ]
                      refine wpAnyH_take (i := 36) (v := undef) (by simp only [List.getElem?_toArray, List.getElem?_cons_succ, List.getElem?_cons_zero]; rfl) (by kernel_rfl) (by kernel_rfl) (by kernel_rfl) (by intro _ _ _ h; exact h) (Or.inr ⟨by rfl, rfl⟩) hHeld ?_
                      try simp only [Act.put, List.setIfInBounds_toArray, List.set_cons_zero, List.set_cons_succ]
                      refine wpAnyH_take (i := 37) (v := undef) (by simp only [List.getElem?_toArray, List.getElem?_cons_succ, List.getElem?_cons_zero]; rfl) (by kernel_rfl) (by kernel_rfl) (by kernel_rfl) (by intro _ _ _ h; exact h) (Or.inr ⟨by rfl, rfl⟩) hHeld ?_
                      try simp only [Act.put, List.setIfInBounds_toArray, List.set_cons_zero, List.set_cons_succ]
                      refine wpAnyH_take (i := 38) (v := undef) (by simp only [List.getElem?_toArray, List.getElem?_cons_succ, List.getElem?_cons_zero]; rfl) (by kernel_rfl) (by kernel_rfl) (by kernel_rfl) (by intro _ _ _ h; exact h) (Or.inr ⟨by rfl, rfl⟩) hHeld ?_
                      try simp only [Act.put, List.setIfInBounds_toArray, List.set_cons_zero, List.set_cons_succ]
                      refine wpAnyH_take (i := 39) (v := undef) (by simp only [List.getElem?_toArray, List.getElem?_cons_succ, List.getElem?_cons_zero]; rfl) (by kernel_rfl) (by kernel_rfl) (by kernel_rfl) (by intro _ _ _ h; exact h) (Or.inr ⟨by rfl, rfl⟩) hHeld ?_
                      try simp only [Act.put, List.setIfInBounds_toArray, List.set_cons_zero, List.set_cons_succ]
                      refine wpAnyH_take (i := 40) (v := undef) (by simp only [List.getElem?_toArray, List.getElem?_cons_succ, List.getElem?_cons_zero]; rfl) (by kernel_rfl) (by kernel_rfl) (by kernel_rfl) (by intro _ _ _ h; exact h) (Or.inr ⟨by rfl, rfl⟩) hHeld ?_
                      try simp only [Act.put, List.setIfInBounds_toArray, List.set_cons_zero, List.set_cons_succ]
                      refine wpAnyH_take (i := 41) (v := undef) (by simp only [List.getElem?_toArray, List.getElem?_cons_succ, List.getElem?_cons_zero]; rfl) (by kernel_rfl) (by kernel_rfl) (by kernel_rfl) (by intro _ _ _ h; exact h) (Or.inr ⟨by rfl, rfl⟩) hHeld ?_
                      try simp only [Act.put, List.setIfInBounds_toArray, List.set_cons_zero, List.set_cons_succ]
                      refine wpAnyH_take (i := 42) (v := ?_) (by simp only [List.getElem?_toArray, List.getElem?_cons_succ, List.getElem?_cons_zero]; rfl) (by kernel_rfl) (by kernel_rfl) (by kernel_rfl) (by intro _ _ _ h; exact h) (Or.inl ⟨by rfl, ?_⟩) hHeld ?_
                      rotate_left 1
                      · intro wq hSw
                        try dsimp only at hSw
                        go_simp
                        try (with_reducible rfl)
                      try simp only [Act.put, List.setIfInBounds_toArray, List.set_cons_zero, List.set_cons_succ]
                      refine wpAnyH_done (by kernel_rfl) ?_ _
                      clear hHeld
                      go_wp2
                      go_roundg g
                      case measure => omega
                      case rel => exact ⟨j + 1, q, by omega, by first | rfl | (simp; done) | (simp; exact wrap64_small (by omega) (by omega)), by first | rfl | (simp; done) | (simp; exact wrap64_small (by omega) (by omega)), hcn, br.trans (bd.mono br.size)⟩
              · obtain rfl : j = kl := by omega
                obtain rfl : q = ms := by
                  rw [← hcq.out, hms.out, hkl.out, cnt_all, ← hS.out]
                go_wp2
                go_ret
                exact ⟨rfl, bb.trans (br.mono bb.size)⟩

theorem LogCrash_walk (a0 : Option Addr) (len0 cap0 : Nat) (a1 : Option Addr) (len1 cap1 : Nat) (a2 : Option Addr) (len2 cap2 : Nat) (z2 : List Int) (w : World) (hT : Tab w) (w0 : IsSts [.num .i64, .num .i64, .row .u8] w a0 len0 cap0) (w1 : IsSts [.num .i64, .num .i64, .row .u8] w a1 len1 cap1) (w2 : IsRow .i64 w a2 len2 cap2 z2) :
    Calls Tryd.prog 7 #[.slice a0 len0 cap0, .slice a1 len1 cap1, .slice a2 len2 cap2] w (AwakePost w) := by
  obtain ⟨xs, ha⟩ := recs_of_sts w0
  obtain ⟨ys, hb⟩ := recs_of_sts w1
  obtain ⟨ks, hk, hf⟩ := ints_of_row w2
  exact LogCrash_core a0 len0 cap0 xs a1 len1 cap1 ys a2 len2 cap2 ks w hT ha hb hk hf
end Go.Proofs.YtnejiclghnigiaaDoor
