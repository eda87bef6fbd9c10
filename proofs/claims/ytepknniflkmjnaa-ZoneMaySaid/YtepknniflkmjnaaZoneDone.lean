/-
  waggonerlaw03.Done: whatever is done with a zone that may be makes one that may be (written by gen_zonedone.py).
-/
import Derived.Test.YtepknniflkmjnaaZoneClosesWalk
namespace Go.Proofs.Ytepknniflkmjnaa
open Go.RowKit Go.Wag
set_option linter.unusedVariables false

/-- What a step of kind kd keeps. -/
def StepOk (kd rs : Int) (l : List UInt8) (la st' rs' : Int) (l' : List UInt8) (la' size : Int) : Prop :=
  chkF st' rs' l'.length la' size = true ∧ l'.take (min l'.length l.length) = l.take (min l'.length l.length) ∧ (kd = 1 ∨ (la ≤ l'.length ∧ la ≤ la')) ∧ rs ≤ rs' ∧ (kd = 1 ∨ kd = 4 ∨ l.length ≤ l'.length)
theorem step_same {kd st rs la size : Int} {l : List UInt8} (hc : chkF st rs l.length la size = true) : StepOk kd rs l la st rs l la size := by
  have h := chk_all hc
  exact ⟨hc, rfl, .inr ⟨by omega, by omega⟩, by omega, .inr (.inr (Nat.le_refl _))⟩
theorem app_ne {st rs n la size m : Int} (h : appErrF st rs n la size m = 0) : m ≠ 0 := by
  unfold appErrF at h
  by_cases hc : chkF st rs n la size = true ∧ m ≠ 0
  · exact hc.2
  · rw [if_neg hc] at h
    cases h
theorem step_app {st rs la size : Int} {l b : List UInt8} (hc : chkF st rs l.length la size = true) : StepOk 0 rs l la (appSt st rs l.length la size b.length) rs (appDa st rs l.length la size b.length l b) la size := by
  have h := chk_all hc
  by_cases he : appErrF st rs l.length la size b.length = 0
  · have hb := (app_ne he)
    have hk := chk_app hc (by omega) he
    rw [appSt, appDa, if_pos he, if_pos he]
    refine ⟨by rw [List.length_append]; simpa using hk.2.2, ?_, .inr ⟨by rw [List.length_append]; omega, by omega⟩, by omega, .inr (.inr (by rw [List.length_append]; omega))⟩
    rw [show min (l ++ b).length l.length = l.length by rw [List.length_append]; omega, List.take_left', List.take_length]
    rfl
  · rw [appSt, appDa, if_neg he, if_neg he]
    exact step_same hc
theorem step_res {st rs la size : Int} {l : List UInt8} (hc : chkF st rs l.length la size = true) : StepOk 1 rs l la (resSt st rs) (resRs st rs) (resDa st rs l) (resLa st rs la) size := by
  have h := chk_all hc
  cases hR : resB st rs
  · rw [resSt, resRs, resDa, resLa, hR]
    exact step_same hc
  · have hr : rs < 1073741824 := by simp [resB] at hR; omega
    rw [resSt, resRs, resDa, resLa, hR]
    exact ⟨chk_at (by simp; omega), rfl, .inl rfl, by simp; omega, .inl rfl⟩
theorem step_fin {st rs la size : Int} {l : List UInt8} (hc : chkF st rs l.length la size = true) : StepOk 2 rs l la (finSt st) rs l la size := by
  have h := chk_all hc
  unfold finSt
  split
  · exact ⟨chk_at (by omega), rfl, .inr ⟨by omega, by omega⟩, by omega, .inr (.inr (Nat.le_refl _))⟩
  · exact step_same hc
theorem step_clo {st rs la size : Int} {l : List UInt8} (hc : chkF st rs l.length la size = true) : StepOk 5 rs l la (cloSt st) rs l la size := by
  have h := chk_all hc
  unfold cloSt
  split
  · exact ⟨chk_at (by omega), rfl, .inr ⟨by omega, by omega⟩, by omega, .inr (.inr (Nat.le_refl _))⟩
  · exact step_same hc
theorem step_flu {st rs la size : Int} {l : List UInt8} (hc : chkF st rs l.length la size = true) : StepOk 3 rs l la st rs l l.length size := by
  have h := chk_all hc
  exact ⟨chk_at (by omega), rfl, .inr ⟨by omega, by omega⟩, by omega, .inr (.inr (Nat.le_refl _))⟩
theorem step_cra {st rs la size keep : Int} {l : List UInt8} (hc : chkF st rs l.length la size = true) : StepOk 4 rs l la (crSt st rs l.length la size keep) rs (crDa st rs l.length la size keep l) (crLa st rs l.length la size keep) size := by
  have h := chk_all hc
  obtain ⟨k, hk, hkn⟩ := crK_nat (n := l.length) (la := la) (keep := keep) (by omega) (by omega)
  have hk2 : la ≤ (k : Int) := by rw [← hk]; unfold crK; omega
  have hl : (l.take k).length = k := by rw [List.length_take]; omega
  rw [crSt, crDa, crLa, if_pos hc, if_pos hc, if_pos hc, hk]
  simp only [Int.toNat_natCast]
  refine ⟨?_, ?_, .inr ⟨by rw [hl]; omega, hk2⟩, by omega, .inr (.inl rfl)⟩
  · rw [hl]
    refine chk_at ?_
    split
    · omega
    · split <;> omega
  · rw [hl, List.take_take]
    congr 1
    omega

def DoneP (w : World) (kd rs : Int) (A : Option Addr) (c : Nat) (l : List UInt8) (la size : Int) (e : Ending) (w' : World) : Prop :=
  ∃ (st' rs' la' : Int) (A' : Option Addr) (c' : Nat) (l' : List UInt8), e = .returned (.agg #[.int .i64 st', .int .i64 rs', .slice A' l'.length c', .int .i64 la']) ∧ (A' = A ∧ c' = c ∧ l' = l ∨ Nw 5 w w' A' l'.length c' (l'.map v8)) ∧ Below w.heap.size w w' ∧ StepOk kd rs l la st' rs' l' la' size

set_option maxRecDepth 100000 in
set_option maxHeartbeats 4000000 in
theorem Done_any (kd N : Int) (Ab : Option Addr) (nb cb : Nat) (b : List UInt8) (st rs la size : Int) (A : Option Addr) (n c : Nat) (l : List UInt8) (w : World) (hc : chkF st rs n la size = true) (h : Sl w A n c (l.map v8)) (hb : Sl w Ab nb cb (b.map v8)) (hnb : nb ≤ 300) (hk0 : -9223372036854775808 ≤ N) (hk1 : N < 9223372036854775808) :
    Calls Try.prog 28 #[.agg #[.int .i64 st, .int .i64 rs, .slice A n c, .int .i64 la], .int .i64 size, .agg #[.int .i64 kd, .slice Ab nb cb, .int .i64 N]] w (DoneP w kd rs A c l la size) := by
  have hln : l.length = n := h.len8
  have hbn : b.length = nb := hb.len8
  subst hln hbn
  have hcs := chk_all hc
  have hn : l.length ≤ 1048576 := by omega
  clear hcs
  by_cases h0 : kd = 0
  · subst h0
    have b1 := (((Below.refl w.heap.size w).alloc (Nat.le_refl _) (.cells #[.int .i64 st, .int .i64 rs, .slice A l.length c, .int .i64 la] 25)).alloc (by simp) (.cells #[.int .i64 0, .slice Ab b.length cb, .int .i64 N] 39)).alloc (by simp; omega) (.cells #[.int .i64 0, .int .i64 0, .slice none 0 0, .int .i64 0] 25)
    have B0 := ((Blk.new w #[.int .i64 st, .int .i64 rs, .slice A l.length c, .int .i64 la] 25).alloc (.cells #[.int .i64 0, .slice Ab b.length cb, .int .i64 N] 39)).alloc (.cells #[.int .i64 0, .int .i64 0, .slice none 0 0, .int .i64 0] 25)
    have B1 := (Blk.new (w.alloc (.cells #[.int .i64 st, .int .i64 rs, .slice A l.length c, .int .i64 la] 25)) #[.int .i64 0, .slice Ab b.length cb, .int .i64 N] 39).alloc (.cells #[.int .i64 0, .int .i64 0, .slice none 0 0, .int .i64 0] 25)
    simp only [World.size_alloc] at B1
    have B2 := Blk.new ((w.alloc (.cells #[.int .i64 st, .int .i64 rs, .slice A l.length c, .int .i64 la] 25)).alloc (.cells #[.int .i64 0, .slice Ab b.length cb, .int .i64 N] 39)) #[.int .i64 0, .int .i64 0, .slice none 0 0, .int .i64 0] 25
    simp only [World.size_alloc] at B2
    have H1 := h.below b1
    have Hb := hb.below b1
    go_enter Try.func28, Try.ntmps28
    go_wp2_with fail
    generalize hW1 : (((w.alloc (.cells #[.int .i64 st, .int .i64 rs, .slice A l.length c, .int .i64 la] 25)).alloc (.cells #[.int .i64 0, .slice Ab b.length cb, .int .i64 N] 39)).alloc (.cells #[.int .i64 0, .int .i64 0, .slice none 0 0, .int .i64 0] 25)) = W1 at *
    have hs1 : W1.heap.size = w.heap.size + 3 := by rw [← hW1]; simp
    refine (zAppend_at st rs la size Ab b.length cb b A l.length c l _ _ _ _ W1 H1 Hb (by omega) rfl rfl rfl rfl).mono ?_
    rintro e w2 ⟨A2, c2, rfl, N2, b2⟩
    have hs2 := b2.size
    have R2 := B2.under b2
    obtain ⟨g0, g1, g2, g3, f0, f1, f2, f3⟩ := R2.four
    have hne : ¬ (w.heap.size + 1 + 1 = w2.heap.size) := by omega
    have hlt : w.heap.size + 1 + 1 < w2.heap.size := by omega
    go_wp2
    try simp only [Exit.inBlock, Exit.then]
    obtain ⟨y1, y2, y3⟩ := zone_stored (st := (appSt st rs l.length la size b.length)) (rs := rs) (la := la) R2 N2 (by omega) (by omega) (b1.trans (b2.mono (by omega)))
    refine ret_blk rfl rfl (y1.alloc _) Try.underlying25 (by kernel_rfl) ⟨(appSt st rs l.length la size b.length), rs, la, A2, c2, (appDa st rs l.length la size b.length l b), rfl, .inr ?_, y3.alloc y3.size _, step_app hc⟩
    exact World.ownsRow.alloc y2 _
  by_cases h1 : kd = 1
  · subst h1
    have b1 := (((Below.refl w.heap.size w).alloc (Nat.le_refl _) (.cells #[.int .i64 st, .int .i64 rs, .slice A l.length c, .int .i64 la] 25)).alloc (by simp) (.cells #[.int .i64 1, .slice Ab b.length cb, .int .i64 N] 39)).alloc (by simp; omega) (.cells #[.int .i64 0, .int .i64 0, .slice none 0 0, .int .i64 0] 25)
    have B0 := ((Blk.new w #[.int .i64 st, .int .i64 rs, .slice A l.length c, .int .i64 la] 25).alloc (.cells #[.int .i64 1, .slice Ab b.length cb, .int .i64 N] 39)).alloc (.cells #[.int .i64 0, .int .i64 0, .slice none 0 0, .int .i64 0] 25)
    have B1 := (Blk.new (w.alloc (.cells #[.int .i64 st, .int .i64 rs, .slice A l.length c, .int .i64 la] 25)) #[.int .i64 1, .slice Ab b.length cb, .int .i64 N] 39).alloc (.cells #[.int .i64 0, .int .i64 0, .slice none 0 0, .int .i64 0] 25)
    simp only [World.size_alloc] at B1
    have B2 := Blk.new ((w.alloc (.cells #[.int .i64 st, .int .i64 rs, .slice A l.length c, .int .i64 la] 25)).alloc (.cells #[.int .i64 1, .slice Ab b.length cb, .int .i64 N] 39)) #[.int .i64 0, .int .i64 0, .slice none 0 0, .int .i64 0] 25
    simp only [World.size_alloc] at B2
    have H1 := h.below b1
    have Hb := hb.below b1
    go_enter Try.func28, Try.ntmps28
    go_wp2_with fail
    generalize hW1 : (((w.alloc (.cells #[.int .i64 st, .int .i64 rs, .slice A l.length c, .int .i64 la] 25)).alloc (.cells #[.int .i64 1, .slice Ab b.length cb, .int .i64 N] 39)).alloc (.cells #[.int .i64 0, .int .i64 0, .slice none 0 0, .int .i64 0] 25)) = W1 at *
    have hs1 : W1.heap.size = w.heap.size + 3 := by rw [← hW1]; simp
    refine (zReset_at st rs la A l.length c l _ _ _ _ _ _ W1 H1 (by omega) rfl rfl rfl rfl rfl rfl).mono ?_
    rintro e w2 ⟨A2, c2, rfl, N2, b2⟩
    have hs2 := b2.size
    have R2 := B2.under b2
    obtain ⟨g0, g1, g2, g3, f0, f1, f2, f3⟩ := R2.four
    have hne : ¬ (w.heap.size + 1 + 1 = w2.heap.size) := by omega
    have hlt : w.heap.size + 1 + 1 < w2.heap.size := by omega
    go_wp2
    try simp only [Exit.inBlock, Exit.then]
    obtain ⟨y1, y2, y3⟩ := zone_stored (st := (resSt st rs)) (rs := (resRs st rs)) (la := (resLa st rs la)) R2 N2 (by omega) (by omega) (b1.trans (b2.mono (by omega)))
    refine ret_blk rfl rfl (y1.alloc _) Try.underlying25 (by kernel_rfl) ⟨(resSt st rs), (resRs st rs), (resLa st rs la), A2, c2, (resDa st rs l), rfl, .inr ?_, y3.alloc y3.size _, step_res hc⟩
    exact World.ownsRow.alloc y2 _
  by_cases h2 : kd = 2
  · subst h2
    have b1 := (((Below.refl w.heap.size w).alloc (Nat.le_refl _) (.cells #[.int .i64 st, .int .i64 rs, .slice A l.length c, .int .i64 la] 25)).alloc (by simp) (.cells #[.int .i64 2, .slice Ab b.length cb, .int .i64 N] 39)).alloc (by simp; omega) (.cells #[.int .i64 0, .int .i64 0, .slice none 0 0, .int .i64 0] 25)
    have B0 := ((Blk.new w #[.int .i64 st, .int .i64 rs, .slice A l.length c, .int .i64 la] 25).alloc (.cells #[.int .i64 2, .slice Ab b.length cb, .int .i64 N] 39)).alloc (.cells #[.int .i64 0, .int .i64 0, .slice none 0 0, .int .i64 0] 25)
    have B1 := (Blk.new (w.alloc (.cells #[.int .i64 st, .int .i64 rs, .slice A l.length c, .int .i64 la] 25)) #[.int .i64 2, .slice Ab b.length cb, .int .i64 N] 39).alloc (.cells #[.int .i64 0, .int .i64 0, .slice none 0 0, .int .i64 0] 25)
    simp only [World.size_alloc] at B1
    have B2 := Blk.new ((w.alloc (.cells #[.int .i64 st, .int .i64 rs, .slice A l.length c, .int .i64 la] 25)).alloc (.cells #[.int .i64 2, .slice Ab b.length cb, .int .i64 N] 39)) #[.int .i64 0, .int .i64 0, .slice none 0 0, .int .i64 0] 25
    simp only [World.size_alloc] at B2
    have H1 := h.below b1
    have Hb := hb.below b1
    go_enter Try.func28, Try.ntmps28
    go_wp2_with fail
    generalize hW1 : (((w.alloc (.cells #[.int .i64 st, .int .i64 rs, .slice A l.length c, .int .i64 la] 25)).alloc (.cells #[.int .i64 2, .slice Ab b.length cb, .int .i64 N] 39)).alloc (.cells #[.int .i64 0, .int .i64 0, .slice none 0 0, .int .i64 0] 25)) = W1 at *
    have hs1 : W1.heap.size = w.heap.size + 3 := by rw [← hW1]; simp
    refine (zFinish_at st rs la A l.length c l _ _ W1 H1 (by omega) rfl rfl).mono ?_
    rintro e w2 ⟨A2, c2, rfl, N2, b2⟩
    have hs2 := b2.size
    have R2 := B2.under b2
    obtain ⟨g0, g1, g2, g3, f0, f1, f2, f3⟩ := R2.four
    have hne : ¬ (w.heap.size + 1 + 1 = w2.heap.size) := by omega
    have hlt : w.heap.size + 1 + 1 < w2.heap.size := by omega
    go_wp2
    try simp only [Exit.inBlock, Exit.then]
    obtain ⟨y1, y2, y3⟩ := zone_stored (st := (finSt st)) (rs := rs) (la := la) R2 N2 (by omega) (by omega) (b1.trans (b2.mono (by omega)))
    refine ret_blk rfl rfl (y1.alloc _) Try.underlying25 (by kernel_rfl) ⟨(finSt st), rs, la, A2, c2, l, rfl, .inr ?_, y3.alloc y3.size _, step_fin hc⟩
    exact World.ownsRow.alloc y2 _
  by_cases h3 : kd = 3
  · subst h3
    have b1 := (((Below.refl w.heap.size w).alloc (Nat.le_refl _) (.cells #[.int .i64 st, .int .i64 rs, .slice A l.length c, .int .i64 la] 25)).alloc (by simp) (.cells #[.int .i64 3, .slice Ab b.length cb, .int .i64 N] 39)).alloc (by simp; omega) (.cells #[.int .i64 0, .int .i64 0, .slice none 0 0, .int .i64 0] 25)
    have B0 := ((Blk.new w #[.int .i64 st, .int .i64 rs, .slice A l.length c, .int .i64 la] 25).alloc (.cells #[.int .i64 3, .slice Ab b.length cb, .int .i64 N] 39)).alloc (.cells #[.int .i64 0, .int .i64 0, .slice none 0 0, .int .i64 0] 25)
    have B1 := (Blk.new (w.alloc (.cells #[.int .i64 st, .int .i64 rs, .slice A l.length c, .int .i64 la] 25)) #[.int .i64 3, .slice Ab b.length cb, .int .i64 N] 39).alloc (.cells #[.int .i64 0, .int .i64 0, .slice none 0 0, .int .i64 0] 25)
    simp only [World.size_alloc] at B1
    have B2 := Blk.new ((w.alloc (.cells #[.int .i64 st, .int .i64 rs, .slice A l.length c, .int .i64 la] 25)).alloc (.cells #[.int .i64 3, .slice Ab b.length cb, .int .i64 N] 39)) #[.int .i64 0, .int .i64 0, .slice none 0 0, .int .i64 0] 25
    simp only [World.size_alloc] at B2
    have H1 := h.below b1
    have Hb := hb.below b1
    go_enter Try.func28, Try.ntmps28
    go_wp2_with fail
    generalize hW1 : (((w.alloc (.cells #[.int .i64 st, .int .i64 rs, .slice A l.length c, .int .i64 la] 25)).alloc (.cells #[.int .i64 3, .slice Ab b.length cb, .int .i64 N] 39)).alloc (.cells #[.int .i64 0, .int .i64 0, .slice none 0 0, .int .i64 0] 25)) = W1 at *
    have hs1 : W1.heap.size = w.heap.size + 3 := by rw [← hW1]; simp
    refine (zFlush_at st rs la A l.length c l W1 H1 (by omega)).mono ?_
    rintro e w2 ⟨A2, c2, rfl, N2, b2⟩
    have hs2 := b2.size
    have R2 := B2.under b2
    obtain ⟨g0, g1, g2, g3, f0, f1, f2, f3⟩ := R2.four
    have hne : ¬ (w.heap.size + 1 + 1 = w2.heap.size) := by omega
    have hlt : w.heap.size + 1 + 1 < w2.heap.size := by omega
    go_wp2
    try simp only [Exit.inBlock, Exit.then]
    obtain ⟨y1, y2, y3⟩ := zone_stored (st := st) (rs := rs) (la := (l.length : Int)) R2 N2 (by omega) (by omega) (b1.trans (b2.mono (by omega)))
    refine ret_blk rfl rfl y1 Try.underlying25 (by kernel_rfl) ⟨st, rs, (l.length : Int), A2, c2, l, rfl, .inr ?_, y3, step_flu hc⟩
    exact y2
  by_cases h4 : kd = 4
  · subst h4
    have b1 := (((Below.refl w.heap.size w).alloc (Nat.le_refl _) (.cells #[.int .i64 st, .int .i64 rs, .slice A l.length c, .int .i64 la] 25)).alloc (by simp) (.cells #[.int .i64 4, .slice Ab b.length cb, .int .i64 N] 39)).alloc (by simp; omega) (.cells #[.int .i64 0, .int .i64 0, .slice none 0 0, .int .i64 0] 25)
    have B0 := ((Blk.new w #[.int .i64 st, .int .i64 rs, .slice A l.length c, .int .i64 la] 25).alloc (.cells #[.int .i64 4, .slice Ab b.length cb, .int .i64 N] 39)).alloc (.cells #[.int .i64 0, .int .i64 0, .slice none 0 0, .int .i64 0] 25)
    have B1 := (Blk.new (w.alloc (.cells #[.int .i64 st, .int .i64 rs, .slice A l.length c, .int .i64 la] 25)) #[.int .i64 4, .slice Ab b.length cb, .int .i64 N] 39).alloc (.cells #[.int .i64 0, .int .i64 0, .slice none 0 0, .int .i64 0] 25)
    simp only [World.size_alloc] at B1
    have B2 := Blk.new ((w.alloc (.cells #[.int .i64 st, .int .i64 rs, .slice A l.length c, .int .i64 la] 25)).alloc (.cells #[.int .i64 4, .slice Ab b.length cb, .int .i64 N] 39)) #[.int .i64 0, .int .i64 0, .slice none 0 0, .int .i64 0] 25
    simp only [World.size_alloc] at B2
    have H1 := h.below b1
    have Hb := hb.below b1
    go_enter Try.func28, Try.ntmps28
    go_wp2_with fail
    generalize hW1 : (((w.alloc (.cells #[.int .i64 st, .int .i64 rs, .slice A l.length c, .int .i64 la] 25)).alloc (.cells #[.int .i64 4, .slice Ab b.length cb, .int .i64 N] 39)).alloc (.cells #[.int .i64 0, .int .i64 0, .slice none 0 0, .int .i64 0] 25)) = W1 at *
    have hs1 : W1.heap.size = w.heap.size + 3 := by rw [← hW1]; simp
    refine (zCrash_at st rs la size N A l.length c l _ _ _ _ W1 H1 (by omega) hk0 hk1 rfl rfl rfl rfl).mono ?_
    rintro e w2 ⟨A2, c2, rfl, N2, b2⟩
    have hs2 := b2.size
    have R2 := B2.under b2
    obtain ⟨g0, g1, g2, g3, f0, f1, f2, f3⟩ := R2.four
    have hne : ¬ (w.heap.size + 1 + 1 = w2.heap.size) := by omega
    have hlt : w.heap.size + 1 + 1 < w2.heap.size := by omega
    go_wp2
    try simp only [Exit.inBlock, Exit.then]
    obtain ⟨y1, y2, y3⟩ := zone_stored (st := (crSt st rs l.length la size N)) (rs := rs) (la := (crLa st rs l.length la size N)) R2 N2 (by omega) (by omega) (b1.trans (b2.mono (by omega)))
    refine ret_blk rfl rfl y1 Try.underlying25 (by kernel_rfl) ⟨(crSt st rs l.length la size N), rs, (crLa st rs l.length la size N), A2, c2, (crDa st rs l.length la size N l), rfl, .inr ?_, y3, step_cra hc⟩
    exact y2
  by_cases h5 : kd = 5
  · subst h5
    have b1 := (((Below.refl w.heap.size w).alloc (Nat.le_refl _) (.cells #[.int .i64 st, .int .i64 rs, .slice A l.length c, .int .i64 la] 25)).alloc (by simp) (.cells #[.int .i64 5, .slice Ab b.length cb, .int .i64 N] 39)).alloc (by simp; omega) (.cells #[.int .i64 0, .int .i64 0, .slice none 0 0, .int .i64 0] 25)
    have B0 := ((Blk.new w #[.int .i64 st, .int .i64 rs, .slice A l.length c, .int .i64 la] 25).alloc (.cells #[.int .i64 5, .slice Ab b.length cb, .int .i64 N] 39)).alloc (.cells #[.int .i64 0, .int .i64 0, .slice none 0 0, .int .i64 0] 25)
    have B1 := (Blk.new (w.alloc (.cells #[.int .i64 st, .int .i64 rs, .slice A l.length c, .int .i64 la] 25)) #[.int .i64 5, .slice Ab b.length cb, .int .i64 N] 39).alloc (.cells #[.int .i64 0, .int .i64 0, .slice none 0 0, .int .i64 0] 25)
    simp only [World.size_alloc] at B1
    have B2 := Blk.new ((w.alloc (.cells #[.int .i64 st, .int .i64 rs, .slice A l.length c, .int .i64 la] 25)).alloc (.cells #[.int .i64 5, .slice Ab b.length cb, .int .i64 N] 39)) #[.int .i64 0, .int .i64 0, .slice none 0 0, .int .i64 0] 25
    simp only [World.size_alloc] at B2
    have H1 := h.below b1
    have Hb := hb.below b1
    go_enter Try.func28, Try.ntmps28
    go_wp2_with fail
    generalize hW1 : (((w.alloc (.cells #[.int .i64 st, .int .i64 rs, .slice A l.length c, .int .i64 la] 25)).alloc (.cells #[.int .i64 5, .slice Ab b.length cb, .int .i64 N] 39)).alloc (.cells #[.int .i64 0, .int .i64 0, .slice none 0 0, .int .i64 0] 25)) = W1 at *
    have hs1 : W1.heap.size = w.heap.size + 3 := by rw [← hW1]; simp
    refine (zClose_at st rs la A l.length c l _ _ W1 H1 (by omega) rfl rfl).mono ?_
    rintro e w2 ⟨A2, c2, rfl, N2, b2⟩
    have hs2 := b2.size
    have R2 := B2.under b2
    obtain ⟨g0, g1, g2, g3, f0, f1, f2, f3⟩ := R2.four
    have hne : ¬ (w.heap.size + 1 + 1 = w2.heap.size) := by omega
    have hlt : w.heap.size + 1 + 1 < w2.heap.size := by omega
    go_wp2
    try simp only [Exit.inBlock, Exit.then]
    obtain ⟨y1, y2, y3⟩ := zone_stored (st := (cloSt st)) (rs := rs) (la := la) R2 N2 (by omega) (by omega) (b1.trans (b2.mono (by omega)))
    refine ret_blk rfl rfl (y1.alloc _) Try.underlying25 (by kernel_rfl) ⟨(cloSt st), rs, la, A2, c2, l, rfl, .inr ?_, y3.alloc y3.size _, step_clo hc⟩
    exact World.ownsRow.alloc y2 _
  have e0 : (kd == 0) = false := by simpa using h0
  have e1 : (kd == 1) = false := by simpa using h1
  have e2 : (kd == 2) = false := by simpa using h2
  have e3 : (kd == 3) = false := by simpa using h3
  have e4 : (kd == 4) = false := by simpa using h4
  have e5 : (kd == 5) = false := by simpa using h5
  have b1 := (((Below.refl w.heap.size w).alloc (Nat.le_refl _) (.cells #[.int .i64 st, .int .i64 rs, .slice A l.length c, .int .i64 la] 25)).alloc (by simp) (.cells #[.int .i64 kd, .slice Ab b.length cb, .int .i64 N] 39)).alloc (by simp; omega) (.cells #[.int .i64 0, .int .i64 0, .slice none 0 0, .int .i64 0] 25)
  have B0 := ((Blk.new w #[.int .i64 st, .int .i64 rs, .slice A l.length c, .int .i64 la] 25).alloc (.cells #[.int .i64 kd, .slice Ab b.length cb, .int .i64 N] 39)).alloc (.cells #[.int .i64 0, .int .i64 0, .slice none 0 0, .int .i64 0] 25)
  have B1 := (Blk.new (w.alloc (.cells #[.int .i64 st, .int .i64 rs, .slice A l.length c, .int .i64 la] 25)) #[.int .i64 kd, .slice Ab b.length cb, .int .i64 N] 39).alloc (.cells #[.int .i64 0, .int .i64 0, .slice none 0 0, .int .i64 0] 25)
  simp only [World.size_alloc] at B1
  have B2 := Blk.new ((w.alloc (.cells #[.int .i64 st, .int .i64 rs, .slice A l.length c, .int .i64 la] 25)).alloc (.cells #[.int .i64 kd, .slice Ab b.length cb, .int .i64 N] 39)) #[.int .i64 0, .int .i64 0, .slice none 0 0, .int .i64 0] 25
  simp only [World.size_alloc] at B2
  have H1 := h.below b1
  have Hb := hb.below b1
  go_enter Try.func28, Try.ntmps28
  go_wp2
  try simp only [Exit.inBlock, Exit.then]
  have V := Blk.new ((w.alloc (.cells #[.int .i64 st, .int .i64 rs, .slice A l.length c, .int .i64 la] 25)).alloc (.cells #[.int .i64 kd, .slice Ab b.length cb, .int .i64 N] 39)) #[.int .i64 st, .int .i64 rs, .slice A l.length c, .int .i64 la] 25
  simp only [World.size_alloc] at V
  have b9 := (((Below.refl w.heap.size w).alloc (Nat.le_refl _) (.cells #[.int .i64 st, .int .i64 rs, .slice A l.length c, .int .i64 la] 25)).alloc (by simp) (.cells #[.int .i64 kd, .slice Ab b.length cb, .int .i64 N] 39)).alloc (by simp; omega) (.cells #[.int .i64 st, .int .i64 rs, .slice A l.length c, .int .i64 la] 25)
  exact ret_blk rfl rfl V Try.underlying25 (by kernel_rfl) ⟨st, rs, la, A, c, l, rfl, .inl ⟨rfl, rfl, rfl⟩, b9, step_same hc⟩
end Go.Proofs.Ytepknniflkmjnaa
