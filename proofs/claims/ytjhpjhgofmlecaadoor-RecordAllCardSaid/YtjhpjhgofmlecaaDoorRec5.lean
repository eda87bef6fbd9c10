/-
  Contract of package record's Scan (written by gen_rec5.py).
-/
import Derived.Test.YtjhpjhgofmlecaaDoorRec4
import Derived.Test.YtjhpjhgofmlecaaDoorGoto
namespace Go.Wag
set_option linter.unusedVariables false
/-- Rows of unlike elements lie in unlike blocks. -/
theorem own_types {w : World} {B B' s s' n n' : Nat} {e e' : TypeId} {v v' : Value} {xs xs' : List Value} (h : w.ownsRow B e s v n xs) (h' : w.ownsRow B' e' s' v' n' xs') (hne : e ≠ e') : ∀ b, v.ownBlock = some b → v'.ownBlock ≠ some b := by
  intro b hb hb'
  rcases h.2 with ⟨rfl, _⟩ | ⟨g, cap, cur, rfl, _, hg, _⟩
  · cases hb
  · rcases h'.2 with ⟨rfl, _⟩ | ⟨g', cap', cur', rfl, _, hg', _⟩
    · cases hb'
    · have e1 : g = b := by simpa [Value.ownBlock] using hb
      have e2 : g' = b := by simpa [Value.ownBlock] using hb'
      subst e1
      subst e2
      rw [hg] at hg'
      injection hg' with hg'
      injection hg' with _ h2
      exact hne h2
/-- Numbers as cells. -/
def vint (n : Int) : Value := .int .i64 n
theorem one_int (n : Int) : ∀ u ∈ [Value.int .i64 n], u.oneCell' = true := by
  intro u hu
  rcases List.mem_cons.1 hu with rfl | hu
  · rfl
  · cases hu
theorem one_rec (a b : Int) (A : Option Addr) (n c : Nat) : ∀ u ∈ [Value.int .i64 a, .int .i64 b, .slice A n c], u.oneCell' = true := by
  intro u hu
  simp only [List.mem_cons, List.not_mem_nil, or_false] at hu
  rcases hu with rfl | rfl | rfl <;> rfl
end Go.Wag
namespace Go.Proofs.YtjhpjhgofmlecaaDoor
open Go.RowKit Go.Wag
set_option linter.unusedVariables false

theorem iRec : ∃ i, Tryd.prog.info? 25 = some i ∧ i.zero = some (.agg #[.int .i64 0, .int .i64 0, .slice none 0 0]) ∧ i.size = 3 ∧ i.bytes = 40 := by
  refine ⟨_, rfl, ?_, ?_, ?_⟩
  · kernel_rfl
  · kernel_rfl
  · kernel_rfl
theorem iInt : ∃ i, Tryd.prog.info? 3 = some i ∧ i.zero = some (.int .i64 0) ∧ i.size = 1 ∧ i.bytes = 8 := by
  refine ⟨_, rfl, ?_, ?_, ?_⟩
  · kernel_rfl
  · kernel_rfl
  · kernel_rfl

/-- Records that were found, and where they stand, in memory of their own. -/
def ScanPost (w : World) (xs : List (Rp × Nat)) (e : Ending) (w' : World) : Prop :=
  ∃ A k c A2 c2, k = xs.length ∧ e = .returned (.tuple #[.slice A k c, .slice A2 k c2]) ∧ Rs recE (fun x => w.heap.size ≤ x) w' A k c (xs.map Prod.fst) ∧ Nw 3 w w' A2 k c2 (xs.map fun x => vint x.2) ∧ Below w.heap.size w w'

/-- What holds at Scan's label. -/
def ScanAt (w : World) (A : Option Addr) (n c : Nat) (b : List UInt8) (g : Nat) (a' : Act) (w' : World) : Prop :=
  ∃ (p : Nat) (Ar : Option Addr) (cr : Nat) (Ap : Option Addr) (cp k : Nat) (done : List (Rp × Nat)) (u7 u8 u9 u10 u11 u12 u13 u14 u15 u16 u17 u18 u19 u20 u21 u22 u23 u24 u25 u26 u27 u28 u29 : Value), a' = { tmps := #[.slice A n c, undef, .slice none 0 0, .slice none 0 0, .slice Ar k cr, .slice Ap k cp, (.func (.func 43) #[] #[.pointer (some ⟨w.heap.size, 0, none⟩), .pointer (some ⟨w.heap.size + 1, 0, none⟩)]), u7, u8, u9, u10, u11, u12, u13, u14, u15, u16, u17, u18, u19, u20, u21, u22, u23, u24, u25, u26, u27, u28, u29], defers := [] } ∧
    p + g = n ∧ k * 20 ≤ p ∧ Hid (done.length = k ∧ scF b 0 = done ++ scF b p) ∧ Blk w' w.heap.size #[.slice A n c] 23 ∧ Blk w' (w.heap.size + 1) #[.int .i64 (p : Int)] 3 ∧
    Rq recE (fun x => w.heap.size + 2 ≤ x ∧ (Value.slice Ap k cp).ownBlock ≠ some x) (w.heap.size + 2) 25 w' Ar k cr (done.map Prod.fst) ∧ w'.ownsRow (w.heap.size + 2) 3 1 (.slice Ap k cp) k (done.map fun x => vint x.2) ∧ Below w.heap.size w w' ∧ w.heap.size + 2 ≤ w'.heap.size

set_option maxRecDepth 20000 in
set_option maxHeartbeats 4000000 in
theorem rScan_any (A : Option Addr) (n c : Nat) (b : List UInt8) (w : World) (hT : Tab w) (h : Sl w A n c (b.map v8)) (hn : n ≤ 10000000000000) :
    Calls Tryd.prog 19 #[.slice A n c] w (ScanPost w (scF b 0)) := by
  have HN : Hid (b.length = n) := h.len8
  obtain ⟨iR, hiR, hzR, hsR, hbR⟩ := iRec
  obtain ⟨iI, hiI, hzI, hsI, hbI⟩ := iInt
  go_enter Tryd.func19, Tryd.ntmps19
  go_wp2
  refine wp_scope_ghost 0 (ScanAt w A n c b) rfl ?_ ?_
  · rintro g a' w' ⟨p, Ar, cr, Ap, cp, k, done, u7, u8, u9, u10, u11, u12, u13, u14, u15, u16, u17, u18, u19, u20, u21, u22, u23, u24, u25, u26, u27, u28, u29, rfl, hpg, hk, hD, Bb, Ba, Rr, Op, bb, hs⟩ J hJ
    cases hR : rdF (b.drop p) with
    | none =>
      go_wp2_with fail
      refine (rfind_any w.heap.size (w.heap.size + 1) p A n c b w' (hT.below bb) Bb Ba (h.below bb) hn (by omega)).mono ?_
      intro e w2 hq
      rw [hR] at hq
      obtain ⟨rfl, b2⟩ := hq
      replace Rr := Rr.under b2
      replace Op := World.ownsRow.kept Op (only_of b2 none) (by cases hv : Value.ownBlock (.slice Ap k cp) <;> simp)
      replace bb := bb.trans (b2.mono bb.size)
      clear b2 Bb Ba
      go_wp2
      simp only [Exit.jump]
      go_ret2
      obtain ⟨hdl, hde⟩ := hD.out
      rw [sc_none hR, List.append_nil] at hde
      rw [hde]
      refine ⟨Ar, k, cr, Ap, cp, hdl.symm, rfl, ?_, ?_, bb.alloc bb.size _⟩
      · exact ((Rr.imp (F' := fun x => w.heap.size ≤ x) (fun x _ hx => by omega)).toRs (fun x _ hx => by omega)).alloc _
      · exact own_base (World.ownsRow.alloc Op _) (by omega)
    | some y =>
      obtain ⟨r, m⟩ := y
      have hm2 := (rd_some hR).2.2.1
      have hm3 : 20 ≤ m := by rw [(rd_some hR).2.1]; omega
      rw [List.length_drop, HN.out] at hm2
      go_wp2_with fail
      refine (rfind_any w.heap.size (w.heap.size + 1) p A n c b w' (hT.below bb) Bb Ba (h.below bb) hn (by omega)).mono ?_
      intro e w2 hq
      rw [hR] at hq
      obtain ⟨A2, l2, c2, hl2, rfl, s2, f2, B2, gr⟩ := hq
      replace hl2 := Lib.hid hl2
      have hs2 := gr.size
      replace Bb := Bb.same (gr.block _ Bb.lt (by simp))
      have hro := Rr.lt
      have hpo := World.ownsRow.lt Op
      replace Rr := Rr.grown gr (fun x hx e => by have := (hro x hx).1; have := Option.some.inj e; omega) (fun x _ hx e => by have := Option.some.inj e; omega)
      replace Op := World.ownsRow.kept Op gr (by
        cases hv : Value.ownBlock (.slice Ap k cp) with
        | none => exact .inl rfl
        | some x => exact .inr (fun e => by have := (hpo x hv).1; have := Option.some.inj e; omega))
      replace bb := bb.grown gr (by omega) (fun x hx => by have := Option.some.inj hx; omega)
      replace Ba := B2
      clear gr B2
      -- the new record is apart from both rows
      have hA2 : ∀ ad, A2 = some ad → w.heap.size + 2 ≤ ad.block ∧ (Value.slice Ap k cp).ownBlock ≠ some ad.block ∧ (Value.slice Ar k cr).ownBlock ≠ some ad.block := fun ad e => by
        have h1 := f2 ad e
        refine ⟨by omega, fun e2 => ?_, fun e2 => ?_⟩
        · have := (hpo _ e2).2
          omega
        · have := (hro _ e2).2
          omega
      clear f2 hro hpo
      have hrd : recE.rd (fun x => (w.heap.size + 2 ≤ x ∧ (Value.slice Ap k cp).ownBlock ≠ some x) ∧ (Value.slice Ar k cr).ownBlock ≠ some x) w2 [.int .i64 r.k, .int .i64 r.s, .slice A2 l2 c2] r :=
        ⟨A2, c2, by rw [hl2.out], by rw [← hl2.out]; exact s2, fun _ ad e => ⟨⟨(hA2 ad e).1, (hA2 ad e).2.1⟩, (hA2 ad e).2.2⟩⟩
      clear hA2 s2
      -- the variable, and the row of one
      have a1 := (Below.refl w2.heap.size w2).alloc (Nat.le_refl _) (.cells #[.int .i64 r.k, .int .i64 r.s, .slice A2 l2 c2] 25)
      have a2 := a1.alloc a1.size (.cells #[.int .i64 r.k, .int .i64 r.s, .slice A2 l2 c2] 25)
      have Bs := Blk.new (w2.alloc (.cells #[.int .i64 r.k, .int .i64 r.s, .slice A2 l2 c2] 25)) #[.int .i64 r.k, .int .i64 r.s, .slice A2 l2 c2] 25
      simp only [World.size_alloc] at Bs
      replace Bb := Bb.under a2
      replace Ba := Ba.under a2
      replace Rr := Rr.under a2
      replace Op := World.ownsRow.kept Op (only_of a2 none) (by cases hv : Value.ownBlock (.slice Ap k cp) <;> simp)
      replace hrd := Elt.below hrd a2
      replace bb := bb.trans (a2.mono bb.size)
      have hs4 := Nat.le_trans (Nat.le_trans hs hs2) a2.size
      clear a1 a2 hs2
      obtain ⟨A5, c5, w5, hr, R5, gr, hlies⟩ := Rr.app (P := Tryd.prog) (T := 35) (ty := 35) Tryd.underlying35 hiR hzR hsR hbR rfl hs4 (by omega) (by omega) hrd (one_rec _ _ _ _ _) Bs
      have hro := Rr.lt
      obtain ⟨cs, hcs, _⟩ := Rr.row
      have hpr := own_types Op hcs (by decide)
      replace Op := World.ownsRow.kept Op gr (by
        cases hv : Value.ownBlock (.slice Ap k cp) with
        | none => exact .inl rfl
        | some x => exact .inr (fun e => hpr x hv e.symm))
      replace Bb := Bb.same (gr.block _ Bb.lt (fun e => by have := (hro _ e.symm).1; omega))
      replace Ba := Ba.same (gr.block _ Ba.lt (fun e => by have := (hro _ e.symm).1; omega))
      replace bb := bb.grown gr (by omega) (fun x hx => by have := (hro x hx).1; omega)
      have hs5 := Nat.le_trans hs4 gr.size
      clear hro hcs hpr gr hrd Bs hlies Rr hs4
      replace Bb := Bb.alloc (.cells #[.int .i64 (p : Int)] 3)
      replace Ba := Ba.alloc (.cells #[.int .i64 (p : Int)] 3)
      replace R5 := R5.alloc (.cells #[.int .i64 (p : Int)] 3)
      replace Op := World.ownsRow.alloc Op (.cells #[.int .i64 (p : Int)] 3)
      replace bb := bb.alloc bb.size (.cells #[.int .i64 (p : Int)] 3)
      have hs6 := Nat.le_trans hs5 ((Below.refl w5.heap.size w5).alloc (Nat.le_refl _) (.cells #[.int .i64 (p : Int)] 3)).size
      have S6 : Sl (w5.alloc (.cells #[.int .i64 (p : Int)] 3)) (some ⟨w5.heap.size, 0, none⟩) 1 1 [.int .i64 (p : Int)] := Sl.new w5 [.int .i64 (p : Int)] 3 (by simp)
      have HO := Own.start Op hs6
      obtain ⟨A7, c7, w7, hr7, hw7⟩ := run_app (P := Tryd.prog) HO 36 36 iI (.int .i64 0) 8 Tryd.underlying36 hiI hzI hsI hbI rfl _ _ _ _ S6 (one_int _) (by omega) (by omega)
      obtain ⟨cs, hcs, _⟩ := R5.row
      have hpr := own_types hcs Op (by decide)
      have hpo := World.ownsRow.lt Op
      have Bb7 := Bb.own hw7 (fun x hx e => by have := (hpo x hx).1; omega)
      have Ba7 := Ba.own hw7 (fun x hx e => by have := (hpo x hx).1; omega)
      have bb7 := bb.grown hw7.grown (by omega) (fun x hx => by have := (hpo x hx).1; omega)
      have R7 := ((R5.imp (F' := fun x => (w.heap.size + 2 ≤ x ∧ (Value.slice Ap k cp).ownBlock ≠ some x) ∧ (Value.slice A7 (k + 1) c7).ownBlock ≠ some x) (fun x hx hf => ⟨hf, fun e => by
        rcases hw7.lies with hl | hl
        · exact hf.2 (hl ▸ e)
        · have := hl x e
          omega⟩)).grown hw7.grown (fun x hx e => hpr x hx e) (fun x _ hf e => hf.1.2 e)).imp (F' := fun x => w.heap.size + 2 ≤ x ∧ (Value.slice A7 (k + 1) c7).ownBlock ≠ some x) (fun x _ hf => ⟨hf.1.1, hf.2⟩)
      have O7 := hw7.own
      have hs7 := Nat.le_trans hs6 hw7.grown.size
      clear hcs hpr hpo Bb Ba bb R5 Op HO S6 hw7
      go_wp2_with (at_builtin; first | (refine wpList_run rfl (.tmp 22) (.tmp 24) 35 rfl rfl rfl hr ?_; intro _) | (refine wpList_run rfl (.tmp 26) (.tmp 28) 36 rfl rfl rfl hr7 ?_; intro _))
      try go_step3
      refine ⟨rfl, Handed.intro (g - m) (by omega) (hJ _ _ _ ⟨p + m, A5, c5, A7, c7, k + 1, done ++ [(r, p)], _, _, _, _, _, _, _, _, _, _, _, _, _, _, _, _, _, _, _, _, _, _, _, rfl, by omega, by omega, ?_, Bb7, Ba7, ?_, ?_, bb7, hs7⟩)⟩
      · obtain ⟨hdl, hde⟩ := hD.out
        exact ⟨by simp [hdl], by rw [hde, sc_some hR]; simp⟩
      · rw [List.map_append]
        exact R7
      · rw [List.map_append]
        exact O7
  · intro L hL
    go_wp2_with fail
    refine (rfinder_any A n c w).mono ?_
    rintro e w1 ⟨rfl, Bb, Ba, b1⟩
    have hs1 := Ba.lt
    go_wp2
    rename_i K hK
    go_step3
    refine hK _ _ (hL n _ _ ⟨0, none, 0, none, 0, 0, [], _, _, _, _, _, _, _, _, _, _, _, _, _, _, _, _, _, _, _, _, _, _, _, rfl, by omega, by omega, ⟨rfl, rfl⟩, Bb, Ba, Rq.nil _ _ _ _ _, World.ownsRow_nil _ _ _ _, b1, hs1⟩)
end Go.Proofs.YtjhpjhgofmlecaaDoor
