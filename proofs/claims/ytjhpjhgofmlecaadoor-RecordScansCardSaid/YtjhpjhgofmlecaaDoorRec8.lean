/-
  Contract of the document's Scan (written by gen_rec8.py).
-/
import Derived.Test.YtjhpjhgofmlecaaDoorRec7
namespace Go.Proofs.YtjhpjhgofmlecaaDoor
open Go.RowKit Go.Wag
set_option linter.unusedVariables false

/-- What holds at the head of the document's loop. -/
def XScanAt (w : World) (n : Nat) (b : List UInt8) (g : Nat) (vl vp va : Value) (w' : World) : Prop :=
  ∃ (p : Nat) (Ar : Option Addr) (cr : Nat) (Ap : Option Addr) (cp k : Nat) (done : List (Rp × Nat)), vl = .slice Ar k cr ∧ vp = .slice Ap k cp ∧ va = .int .i64 (p : Int) ∧
    p + g = n ∧ k * 20 ≤ p ∧ Hid (done.length = k ∧ scF b 0 = done ++ scF b p) ∧
    Rq recE (fun x => w.heap.size ≤ x ∧ (Value.slice Ap k cp).ownBlock ≠ some x) w.heap.size 25 w' Ar k cr (done.map Prod.fst) ∧ w'.ownsRow w.heap.size 3 1 (.slice Ap k cp) k (done.map fun x => vint x.2) ∧ Below w.heap.size w w'

set_option maxRecDepth 20000 in
set_option maxHeartbeats 4000000 in
theorem xScan_any (A : Option Addr) (n c : Nat) (b : List UInt8) (w : World) (h : Sl w A n c (b.map v8)) (hn : n ≤ 10000000000000) :
    Calls Tryd.prog 20 #[.slice A n c] w (ScanPost w (scF b 0)) := by
  have HN : Hid (b.length = n) := h.len8
  have hcap := h.cap
  have hbig := h.big
  obtain ⟨iR, hiR, hzR, hsR, hbR⟩ := iRec
  obtain ⟨iI, hiI, hzI, hsI, hbI⟩ := iInt
  go_enter Tryd.func20, Tryd.ntmps20
  go_wp2
  go_loopg [4, 5, 6] n (fun g vl vp va wr => XScanAt w n b g vl vp va wr)
  case atStart => exact ⟨0, none, 0, none, 0, 0, [], rfl, rfl, rfl, by omega, by omega, ⟨rfl, rfl⟩, Rq.nil _ _ _ _ _, World.ownsRow_nil _ _ _ _, Below.refl _ _⟩
  case round =>
    obtain ⟨p, Ar, cr, Ap, cp, k, done, rfl, rfl, rfl, hpg, hk, hD, Rr, Op, bb⟩ := hrel
    have hcut := fun W => run_cut (P := Tryd.prog) 23 5 un22 el22 sz5 A n c .i64 (p : Int) p rfl (by omega) W
    have HC := (h.below bb).from_ (k := p) (by omega)
    rw [← List.map_drop] at HC
    cases hR : rdF (b.drop p) with
    | none =>
      go_wp2_with fail
      refine (RecErr.no (xRead_any _ _ _ (b.drop p) wr HC (by omega)) hR).mono ?_
      rintro e w2 ⟨rfl, b2⟩
      replace Rr := Rr.under b2
      replace Op := World.ownsRow.kept Op (only_of b2 none) (by cases hv : Value.ownBlock (.slice Ap k cp) <;> simp)
      replace bb := bb.trans (b2.mono bb.size)
      clear b2 hcut HC
      go_wp2
      go_ret2
      obtain ⟨hdl, hde⟩ := hD.out
      rw [sc_none hR, List.append_nil] at hde
      rw [hde]
      refine ⟨Ar, k, cr, Ap, cp, hdl.symm, rfl, ?_, World.ownsRow.alloc Op _, bb.alloc bb.size _⟩
      exact ((Rr.imp (F' := fun x => w.heap.size ≤ x) (fun x _ hx => hx.1)).toRs (fun x _ hx => hx)).alloc _
    | some y =>
      obtain ⟨r, m⟩ := y
      have hm2 := (rd_some hR).2.2.1
      have hm3 : 20 ≤ m := by rw [(rd_some hR).2.1]; omega
      rw [List.length_drop, HN.out] at hm2
      go_wp2_with fail
      refine (RecErr.ok (xRead_any _ _ _ (b.drop p) wr HC (by omega)) hR).mono ?_
      rintro e w2 ⟨A2, l2, c2, hl2, rfl, s2, f2, b2⟩
      replace hl2 := Lib.hid hl2
      have hs2 := b2.size
      have hs := bb.size
      have hro := Rr.lt
      have hpo := World.ownsRow.lt Op
      replace Rr := Rr.under b2
      replace Op := World.ownsRow.kept Op (only_of b2 none) (by cases hv : Value.ownBlock (.slice Ap k cp) <;> simp)
      replace bb := bb.trans (b2.mono bb.size)
      clear b2 hcut HC
      -- the new record is apart from both rows
      have hA2 : ∀ ad, A2 = some ad → w.heap.size ≤ ad.block ∧ (Value.slice Ap k cp).ownBlock ≠ some ad.block ∧ (Value.slice Ar k cr).ownBlock ≠ some ad.block := fun ad e => by
        have h1 := f2 ad e
        refine ⟨by omega, fun e2 => ?_, fun e2 => ?_⟩
        · have := (hpo _ e2).2
          omega
        · have := (hro _ e2).2
          omega
      clear f2 hro hpo
      have hrd : recE.rd (fun x => (w.heap.size ≤ x ∧ (Value.slice Ap k cp).ownBlock ≠ some x) ∧ (Value.slice Ar k cr).ownBlock ≠ some x) w2 [.int .i64 r.k, .int .i64 r.s, .slice A2 l2 c2] r :=
        ⟨A2, c2, by rw [hl2.out], by rw [← hl2.out]; exact s2, fun _ ad e => ⟨⟨(hA2 ad e).1, (hA2 ad e).2.1⟩, (hA2 ad e).2.2⟩⟩
      clear hA2 s2
      have a1 := (Below.refl w2.heap.size w2).alloc (Nat.le_refl _) (.cells #[.int .i64 r.k, .int .i64 r.s, .slice A2 l2 c2] 25)
      have a2 := a1.alloc a1.size (.cells #[.int .i64 r.k, .int .i64 r.s, .slice A2 l2 c2] 25)
      have Bs := Blk.new (w2.alloc (.cells #[.int .i64 r.k, .int .i64 r.s, .slice A2 l2 c2] 25)) #[.int .i64 r.k, .int .i64 r.s, .slice A2 l2 c2] 25
      simp only [World.size_alloc] at Bs
      replace Rr := Rr.under a2
      replace Op := World.ownsRow.kept Op (only_of a2 none) (by cases hv : Value.ownBlock (.slice Ap k cp) <;> simp)
      replace hrd := Elt.below hrd a2
      replace bb := bb.trans (a2.mono bb.size)
      have hs4 := bb.size
      clear a1 a2 hs2 hs
      obtain ⟨A5, c5, w5, hr, R5, gr, hlies⟩ := Rr.app (P := Tryd.prog) (T := 35) (ty := 35) Tryd.underlying35 hiR hzR hsR hbR rfl hs4 (by omega) (by omega) hrd (one_rec _ _ _ _ _) Bs
      have hro := Rr.lt
      obtain ⟨cs, hcs, _⟩ := Rr.row
      have hpr := own_types Op hcs (by decide)
      replace Op := World.ownsRow.kept Op gr (by
        cases hv : Value.ownBlock (.slice Ap k cp) with
        | none => exact .inl rfl
        | some x => exact .inr (fun e => hpr x hv e.symm))
      replace bb := bb.grown gr (by omega) (fun x hx => (hro x hx).1)
      clear hro hcs hpr gr hrd Bs hlies Rr hs4
      replace R5 := R5.alloc (.cells #[.int .i64 (p : Int)] 3)
      replace Op := World.ownsRow.alloc Op (.cells #[.int .i64 (p : Int)] 3)
      replace bb := bb.alloc bb.size (.cells #[.int .i64 (p : Int)] 3)
      have hs6 := bb.size
      have S6 : Sl (w5.alloc (.cells #[.int .i64 (p : Int)] 3)) (some ⟨w5.heap.size, 0, none⟩) 1 1 [.int .i64 (p : Int)] := Sl.new w5 [.int .i64 (p : Int)] 3 (by simp)
      have HO := Own.start Op hs6
      obtain ⟨A7, c7, w7, hr7, hw7⟩ := run_app (P := Tryd.prog) HO 36 36 iI (.int .i64 0) 8 Tryd.underlying36 hiI hzI hsI hbI rfl _ _ _ _ S6 (one_int _) (by omega) (by omega)
      obtain ⟨cs, hcs, _⟩ := R5.row
      have hpr := own_types hcs Op (by decide)
      have hpo := World.ownsRow.lt Op
      have bb7 := bb.grown hw7.grown (by omega) (fun x hx => (hpo x hx).1)
      have R7 := ((R5.imp (F' := fun x => (w.heap.size ≤ x ∧ (Value.slice Ap k cp).ownBlock ≠ some x) ∧ (Value.slice A7 (k + 1) c7).ownBlock ≠ some x) (fun x hx hf => ⟨hf, fun e => by
        rcases hw7.lies with hl | hl
        · exact hf.2 (hl ▸ e)
        · have := hl x e
          omega⟩)).grown hw7.grown (fun x hx e => hpr x hx e) (fun x _ hf e => hf.1.2 e)).imp (F' := fun x => w.heap.size ≤ x ∧ (Value.slice A7 (k + 1) c7).ownBlock ≠ some x) (fun x _ hf => ⟨hf.1.1, hf.2⟩)
      have O7 := hw7.own
      clear hcs hpr hpo bb R5 Op HO S6 hw7
      have hwr : Hid (wrap64 ((p : Int) + (m : Int)) = (p : Int) + m) := by show _ = _; unfold wrap64; omega
      go_wp2_with (at_builtin; first | (refine wpList_run rfl (.tmp 22) (.tmp 24) 35 rfl rfl rfl hr ?_; intro _) | (refine wpList_run rfl (.tmp 26) (.tmp 28) 36 rfl rfl rfl hr7 ?_; intro _))
      go_roundg (gk - m)
      case measure => omega
      case rel =>
        refine ⟨p + m, A5, c5, A7, c7, k + 1, done ++ [(r, p)], rfl, rfl, by simp, by omega, by omega, ?_, ?_, ?_, bb7⟩
        · obtain ⟨hdl, hde⟩ := hD.out
          exact ⟨by simp [hdl], by rw [hde, sc_some hR]; simp⟩
        · rw [List.map_append]
          exact R7
        · rw [List.map_append]
          exact O7
end Go.Proofs.YtjhpjhgofmlecaaDoor
