/-
  Contracts of package dev, their results named.
-/
import Derived.Test.YtnjekhnheihooaaDev8
namespace Go.Proofs.Ytnjekhnheihooaa
open Go.RowKit Go.Wag
set_option linter.unusedVariables false

/-- A device in memory of its own, of m zones, with an error beside it, or alone. -/
def DE (w : World) (size lf dn : Int) (dw : Bool) (zs : List Zp) (er : Int) (m : Nat) (e : Ending) (w' : World) : Prop :=
  ∃ A, e = .returned (.tuple #[.agg #[.int .i64 size, .slice A m m, .int .i64 lf, .bool dw, .int .i64 dn], .int .i64 er]) ∧ Zs (fun b => w.heap.size ≤ b) w' A m m zs ∧ Below w.heap.size w w'
def DN (w : World) (size lf dn : Int) (dw : Bool) (zs : List Zp) (m : Nat) (e : Ending) (w' : World) : Prop :=
  ∃ A, e = .returned (.agg #[.int .i64 size, .slice A m m, .int .i64 lf, .bool dw, .int .i64 dn]) ∧ Zs (fun b => w.heap.size ≤ b) w' A m m zs ∧ Below w.heap.size w w'
theorem DevErr.at_ {w : World} {size lf dn : Int} {dw : Bool} {zs : List Zp} {er : Int} {m : Nat} (hm : zs.length = m) (h1 : m ≤ 100) (e : Ending) (w' : World) (h : DevErr w size lf dn dw zs er e w') : DE w size lf dn dw zs er m e w' := by
  obtain ⟨g, rfl, hz, hb⟩ := h
  subst hm
  exact ⟨_, rfl, hz.toZs h1, hb⟩
theorem DevNew.at_ {w : World} {size lf dn : Int} {dw : Bool} {zs : List Zp} {m : Nat} (hm : zs.length = m) (h1 : m ≤ 100) (e : Ending) (w' : World) (h : DevNew w size lf dn dw zs e w') : DN w size lf dn dw zs m e w' := by
  obtain ⟨g, rfl, hz, hb⟩ := h
  subst hm
  exact ⟨_, rfl, hz.toZs h1, hb⟩

theorem len_chg (zs : List Zp) (N : Int) (H : Zp → Zp) (E : Zp → Int) : (chgZs zs N H E).length = zs.length := by
  unfold chgZs
  split
  · cases zs[N.toNat]? with
    | none => rfl
    | some z =>
      simp only [Option.elim]
      split
      · simp
      · rfl
  · rfl
theorem len_cmd (size : Int) (zs : List Zp) (kd N : Int) (b : List UInt8) : (cmdZs size zs kd N b).length = zs.length := by
  unfold cmdZs
  repeat' split
  all_goals simp [len_chg]
theorem len_ru (size lf : Int) (dw : Bool) (zs : List Zp) (kd N : Int) (b : List UInt8) : (ruZs size lf dw zs kd N b).length = zs.length := by
  unfold ruZs
  split
  · exact len_cmd size zs kd N b
  · rfl
theorem len_cd (size : Int) (ks : List Int) (zs : List Zp) : (cdZs size ks zs).length = zs.length := by
  unfold cdZs crZs
  split <;> simp

theorem dNew_at (n size : Int) (zs : List Zp) (m : Nat) (w : World) (hm : mayF n size = true) (hz : List.replicate n.toNat zero4 = zs) (hl : zs.length = m) (h1 : m ≤ 100) : Calls Try.prog 12 #[.int .i64 n, .int .i64 size] w (DE w size (-1) 0 false zs 0 m) := by
  subst hz
  refine (dNew_any n size w).mono ?_
  rintro e w' (⟨_, h⟩ | ⟨h, _⟩)
  · exact DevErr.at_ hl h1 e w' h
  · rw [hm] at h
    cases h
theorem dNew_no (n size : Int) (w : World) (hm : mayF n size = false) : Calls Try.prog 12 #[.int .i64 n, .int .i64 size] w fun e w' => e = .returned (.tuple #[.agg #[.int .i64 0, .slice none 0 0, .int .i64 0, .bool false, .int .i64 0], .int .i64 1]) ∧ Below w.heap.size w w' := by
  refine (dNew_any n size w).mono ?_
  rintro e w' (⟨h, _⟩ | ⟨_, h⟩)
  · rw [hm] at h
    cases h
  · exact h
theorem dDo_at {F : Nat → Prop} (size lf dn : Int) (dw : Bool) (A : Option Addr) (n c : Nat) (zs : List Zp) (kd N : Int) (Ad : Option Addr) (nd cd : Nat) (b : List UInt8) (Lf Dn : Int) (Dw : Bool) (Zz : List Zp) (Er : Int) (w : World) (h : Zs F w A n c zs) (hsm : Sm zs) (hs : Sl w Ad nd cd (b.map v8)) (hnd : nd ≤ 10000) (hlf : lf < 9223372036854775808)
    (h1 : ruLf size lf dw zs = Lf) (h2 : ruDn size lf dn dw zs = Dn) (h3 : ruDw size lf dw zs = Dw) (h4 : ruZs size lf dw zs kd N b = Zz) (h5 : ruEr size lf dw zs kd N b = Er) :
    Calls Try.prog 24 #[.agg #[.int .i64 size, .slice A n c, .int .i64 lf, .bool dw, .int .i64 dn], .agg #[.int .i64 kd, .int .i64 N, .slice Ad nd cd]] w (DE w size Lf Dn Dw Zz Er n) := by
  subst h1 h2 h3 h4 h5
  have hl := h.len
  have h0 := hsm.1
  exact (dDo_any size lf dn dw A n c zs kd N Ad nd cd b w h hsm hs hnd hlf).mono (DevErr.at_ ((len_ru _ _ _ _ _ _ _).trans hl) (by omega))
theorem dCrash_at {F : Nat → Prop} (size lf dn : Int) (dw : Bool) (A : Option Addr) (n c : Nat) (zs : List Zp) (Ak : Option Addr) (nk ck : Nat) (ks : List Int) (Lf : Int) (Dw : Bool) (Zz : List Zp) (w : World) (h : Zs F w A n c zs) (hsm : Sm zs) (hs : Sl w Ak nk ck (ks.map iv)) (hf : fits ks)
    (h1 : cdLf size lf zs = Lf) (h3 : cdDw size dw zs = Dw) (h4 : cdZs size ks zs = Zz) :
    Calls Try.prog 17 #[.agg #[.int .i64 size, .slice A n c, .int .i64 lf, .bool dw, .int .i64 dn], .slice Ak nk ck] w (DN w size Lf dn Dw Zz n) := by
  subst h1 h3 h4
  have hl := h.len
  have h0 := hsm.1
  have hk : ks.length = nk := by simpa using hs.len
  subst hk
  exact (dCrash_any size lf dn dw A n c zs Ak ck ks w h hsm hs hf).mono (DevNew.at_ ((len_cd _ _ _).trans hl) (by omega))
theorem dLimit_at {F : Nat → Prop} (size lf dn left : Int) (dw : Bool) (A : Option Addr) (n c : Nat) (zs : List Zp) (w : World) (h : Zs F w A n c zs) (hsm : Sm zs) :
    Calls Try.prog 19 #[.agg #[.int .i64 size, .slice A n c, .int .i64 lf, .bool dw, .int .i64 dn], .int .i64 left] w (DN w size left dn dw zs n) := by
  have hl := h.len
  have h0 := hsm.1
  exact (dLimit_any size lf dn left dw A n c zs w h hsm).mono (DevNew.at_ hl (by omega))
theorem dCheck_at {F : Nat → Prop} (size lf dn : Int) (dw : Bool) (A : Option Addr) (n c : Nat) (zs : List Zp) (b : Bool) (w : World) (h : Zs F w A n c zs) (hb : devF size zs = b) :
    Calls Try.prog 21 #[.agg #[.int .i64 size, .slice A n c, .int .i64 lf, .bool dw, .int .i64 dn]] w fun e w' => e = .returned (.bool b) ∧ Below w.heap.size w w' := by
  subst hb
  exact dCheck_any size lf dn dw A n c zs w h
theorem dOpen_at {F : Nat → Prop} (size lf dn : Int) (dw : Bool) (A : Option Addr) (n c : Nat) (zs : List Zp) (o : Int) (w : World) (h : Zs F w A n c zs) (ho : (openF zs : Int) = o) :
    Calls Try.prog 22 #[.agg #[.int .i64 size, .slice A n c, .int .i64 lf, .bool dw, .int .i64 dn]] w fun e w' => e = .returned (.int .i64 o) ∧ Below w.heap.size w w' := by
  subst ho
  exact dOpen_any size lf dn dw A n c zs w h
theorem dRead_ok {F : Nat → Prop} (size lf dn : Int) (dw : Bool) (A : Option Addr) (n c : Nat) (zs : List Zp) (zn at_ m : Int) (l : List UInt8) (k : Nat) (w : World) (h : Zs F w A n c zs) (hsm : Sm zs) (hx : at_ < 9223372036854775808) (hy : m < 9223372036854775808) (ho : rdOk size zs zn at_ m = true) (hl : rdF size zs zn at_ m = l) (hk : l.length = k) :
    Calls Try.prog 14 #[.agg #[.int .i64 size, .slice A n c, .int .i64 lf, .bool dw, .int .i64 dn], .int .i64 zn, .int .i64 at_, .int .i64 m] w fun e w' => ∃ A c, e = .returned (.tuple #[.slice A k c, .int .i64 0]) ∧ Nw 5 w w' A k c (l.map v8) ∧ Below w.heap.size w w' := by
  subst hl hk
  refine (dRead_any size lf dn dw A n c zs zn at_ m w h hsm hx hy).mono ?_
  rintro e w' (⟨_, h⟩ | ⟨h, _⟩)
  · exact h
  · rw [ho] at h
    cases h
theorem dRead_no {F : Nat → Prop} (size lf dn : Int) (dw : Bool) (A : Option Addr) (n c : Nat) (zs : List Zp) (zn at_ m : Int) (w : World) (h : Zs F w A n c zs) (hsm : Sm zs) (hx : at_ < 9223372036854775808) (hy : m < 9223372036854775808) (ho : rdOk size zs zn at_ m = false) :
    Calls Try.prog 14 #[.agg #[.int .i64 size, .slice A n c, .int .i64 lf, .bool dw, .int .i64 dn], .int .i64 zn, .int .i64 at_, .int .i64 m] w fun e w' => e = .returned (.tuple #[.slice none 0 0, .int .i64 1]) ∧ Below w.heap.size w w' := by
  refine (dRead_any size lf dn dw A n c zs zn at_ m w h hsm hx hy).mono ?_
  rintro e w' (⟨h, _⟩ | ⟨_, h⟩)
  · rw [ho] at h
    cases h
  · exact h

/-- A row of integers that was just laid. -/
theorem sl_new_ints (w : World) (xs : List Int) (t : TypeId) (n : Nat) (hn : xs.length = n) (h : n ≤ 1000) : Sl (w.alloc (.cells (xs.map iv).toArray t)) (some ⟨w.heap.size, 0, none⟩) n n (xs.map iv) := by
  have hh := Sl.new w (xs.map iv) t (by simp; omega)
  simpa [hn] using hh

/-- Whether a device is small. -/
def smF (zs : List Zp) : Bool := decide (zs.length ≤ 70) && zs.all (fun z => decide (z.l.length ≤ 300))
theorem smF_sm {zs : List Zp} (h : smF zs = true) : zs.length ≤ 70 ∧ Sm zs := by
  simp only [smF, Bool.and_eq_true, decide_eq_true_eq, List.all_eq_true] at h
  exact ⟨h.1, by omega, fun z hz => by have := h.2 z hz; omega⟩

set_option maxHeartbeats 1000000 in
theorem lSmall_any {F : Nat → Prop} (size lf dn : Int) (dw : Bool) (A : Option Addr) (n c : Nat) (zs : List Zp) (w : World) (h : Zs F w A n c zs) :
    Calls Try.prog 11 #[.agg #[.int .i64 size, .slice A n c, .int .i64 lf, .bool dw, .int .i64 dn]] w fun e w' => e = .returned (.bool (smF zs)) ∧ Below w.heap.size w w' := by
  have hlen := h.len
  subst hlen
  have hbig := h.big
  have hcap := h.cap
  have B0 := Blk.new w #[.int .i64 size, .slice A zs.length c, .int .i64 lf, .bool dw, .int .i64 dn] 25
  have b0 := (Below.refl w.heap.size w).alloc (Nat.le_refl _) (.cells #[.int .i64 size, .slice A zs.length c, .int .i64 lf, .bool dw, .int .i64 dn] 25)
  go_enter Try.func11, Try.ntmps11
  by_cases h70 : 70 < (zs.length : Int)
  · have e0 : Hid (smF zs = false) := by
      show smF zs = false
      simp only [smF, Bool.and_eq_false_iff, decide_eq_false_iff_not]
      exact .inl (by omega)
    go_wp2
    go_ret
    exact ⟨by rw [e0.out]; rfl, b0⟩
  · go_wp2_with fail
    generalize w.alloc (.cells #[.int .i64 size, .slice A zs.length c, .int .i64 lf, .bool dw, .int .i64 dn] 25) = w0 at *
    go_loopg [3] zs.length (fun g i wr => wr = w0 ∧ ∃ k : Nat, k + g = zs.length ∧ i = .int .i64 (k : Int) ∧ Aside ((zs.take k).all (fun z => decide (z.l.length ≤ 300)) = true))
    case atStart => exact ⟨rfl, 0, by omega, rfl, rfl⟩
    case round =>
      obtain ⟨rfl, k, hk, rfl, hall⟩ := hrel
      obtain ⟨p0, p1, p2, p3, p4, _⟩ := B0.five
      by_cases hlt : (k : Int) < (zs.length : Int)
      · obtain ⟨g, rfl⟩ : ∃ g, gk = g + 1 := ⟨gk - 1, by omega⟩
        obtain ⟨gb, o, z, Ai, ci, rfl, hF, hg, hz, c0', c1', c2', c3', hS, hA⟩ := h.at_ (show k < zs.length by omega)
        have c2 := (b0.cell hg).trans c2'
        clear c0' c1' c2' c3'
        by_cases h3 : 300 < (z.l.length : Int)
        · have e0 : Hid (smF zs = false) := by
            show smF zs = false
            simp only [smF, Bool.and_eq_false_iff, List.all_eq_false]
            exact .inr ⟨z, List.mem_of_getElem? hz, by simp; omega⟩
          clear hz
          go_wp2
          go_ret
          exact ⟨by rw [e0.out]; rfl, b0⟩
        · have hk1 : Aside ((zs.take (k + 1)).all (fun z => decide (z.l.length ≤ 300)) = true) := by
            show _ = true
            have hk1 : zs.take (k + 1) = zs.take k ++ [z] := by
              rw [List.take_add_one, hz]; rfl
            rw [hk1, List.all_append, hall.out]
            simp
            omega
          clear hz
          go_wp2
          go_roundg g
          case measure => omega
          case rel => exact ⟨rfl, k + 1, by omega, by first | rfl | (simp; done) | (simp; exact wrap64_small (by omega) (by omega)), hk1⟩
      · have hkk : k = zs.length := by omega
        have e0 : Hid (smF zs = true) := by
          show smF zs = true
          have hall := hall.out
          rw [hkk, List.take_length] at hall
          simp only [smF, hall, Bool.and_true, decide_eq_true_eq]
          omega
        clear hkk
        go_wp2
        go_ret
        exact ⟨by rw [e0.out]; rfl, b0⟩
end Go.Proofs.Ytnjekhnheihooaa
