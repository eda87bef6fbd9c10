/-
  The calls at the head of layer 2's statements answer as the document says.
-/
import Derived.Test.YtdjengpjbgejlaaDoorCrcSeal
import Derived.Lib.SlBytesConst
namespace Go.Proofs.YtdjengpjbgejlaaDoor
open Go.RowKit Go.Wag
set_option linter.unusedVariables false

theorem Tab.alloc {w : World} (hT : Tab w) (o : Obj) : Tab (w.alloc o) := hT.below ((Below.refl _ w).alloc (Nat.le_refl _) o)
theorem Sum_num (A : Option Addr) (n c : Nat) (l : List UInt8) (v : Int) (hv : ((moreF 0#32 l).toNat : Int) = v) (w : World) (hT : Tab w) (h : Sl w A n c (l.map v8)) :
    Calls Tryd.prog 14 #[.slice A n c] w fun e w' => e = .returned (.int .u32 v) ∧ w = w' := by
  subst hv
  exact Sum_any A n c l w hT h
theorem More_num (s : W32) (sv : Int) (hs : (s.toNat : Int) = sv) (A : Option Addr) (n c : Nat) (l : List UInt8) (v : Int) (hv : ((moreF s l).toNat : Int) = v) (w : World) (hT : Tab w) (h : Sl w A n c (l.map v8)) :
    Calls Tryd.prog 12 #[.int .u32 sv, .slice A n c] w fun e w' => e = .returned (.int .u32 v) ∧ w = w' := by
  subst hv hs
  exact More_any s A n c l w hT h
theorem Join_num (a b : W32) (av bv : Int) (ha : (a.toNat : Int) = av) (hb : (b.toNat : Int) = bv) (n : Int) (N : Nat) (hn : min (max n 0) 1073741824 = (N : Int)) (v : Int) (hv : ((joinF a b N).toNat : Int) = v) (w : World) :
    Calls Tryd.prog 15 #[.int .u32 av, .int .u32 bv, .int .i64 n] w fun e w' => e = .returned (.int .u32 v) ∧ w = w' := by
  subst hv ha hb
  have := Join_any a b n w
  rwa [hn, Int.toNat_natCast] at this

/-- '[]byte("..")' of a constant: its row bears a mark. -/
theorem kc (w : World) (C : Array Value) (n c : Nat) :
    (convert 23 23 (.slice (some ⟨w.heap.size, 0, none⟩) n c)).run Tryd.prog (w.alloc (.cells C 5)) = .ok (.slice (some ⟨w.heap.size, 0, none⟩) n c) (w.alloc (.cells C 5 (C.size, C.size + 1))) :=
  Lib.run_convert_bytes_const w 23 5 C n c Tryd.underlying23 Tryd.underlying5
theorem slm (w : World) (l : List UInt8) (fr : Nat × Nat) (hl : l.length ≤ 1000) : Sl (w.alloc (.cells (l.map v8).toArray 5 fr)) (some ⟨w.heap.size, 0, none⟩) l.length l.length (l.map v8) :=
  ⟨by simp, Nat.le_refl _, by omega, fun _ => ⟨_, rfl, by simp, fun j u hu => by
    have : (w.alloc (.cells (l.map v8).toArray 5 fr)).cell? ⟨w.heap.size, j, none⟩ = (l.map v8).toArray[j]? := World.cell?_alloc_mark w _ _ fr j
    have h2 : ((⟨w.heap.size, 0, none⟩ : Addr).add j) = ⟨w.heap.size, j, none⟩ := by
      unfold Addr.add; split <;> simp_all
    rw [h2, this]
    simpa using hu⟩⟩

/-- A call that leaves the world: as one that turns nothing old (so that the world gets a new name). -/
theorem named {P : Program} {f : FuncId} {args : Array Value} {w : World} {v : Value} (h : Calls P f args w fun e w' => e = .returned v ∧ w = w') : Calls P f args w fun e w' => e = .returned v ∧ Below w.heap.size w w' :=
  h.mono fun e w' ⟨he, hw⟩ => ⟨he, hw ▸ Below.refl _ _⟩
theorem alloc_below {w w' : World} {o : Obj} (h : Below (w.alloc o).heap.size (w.alloc o) w') : Below w.heap.size w w' := ((Below.refl _ w).alloc (Nat.le_refl _) o).trans (h.mono (by simp))

set_option maxRecDepth 100000 in
set_option maxHeartbeats 1000000 in
theorem crcAwake_any (w : World) (hT : Tab w) : Calls Tryd.prog 9 #[] w (AwakePost w) := by
  have hkc := kc
  go_enter Tryd.func9, Tryd.ntmps9
  go_wp2_with fail
  refine (Seal_any _ 4 4 [116, 101, 120, 116] _ (hT.alloc _) (by exact slm w [116, 101, 120, 116] _ (by decide)) (by decide)).mono ?_
  rintro e w1 ⟨A1, n1, c1, rfl, s1, f1, b1⟩
  replace b1 := ((Below.refl _ w).alloc (Nat.le_refl _) _).trans (b1.mono (by simp))
  obtain rfl : n1 = 8 := by have := s1.len8; rw [sealF_length] at this; simpa using this.symm
  have hT1 := hT.below b1
  clear f1
  go_wp2_with fail
  refine (BytesErr.ok (Open_any _ _ _ _ _ hT1 s1 (by decide)) (open_seal _)).mono ?_
  rintro e w2 ⟨A2, n2, c2, rfl, s2, f2, b2⟩
  replace b1 := b1.trans (b2.mono b1.size)
  have hT2 := hT.below b1
  clear f2 b2 s1 hT1
  go_wp2_with fail
  refine (BytesErr.no (Open_any _ 3 3 [97, 98, 99] _ (hT2.alloc _) (by exact slm w2 [97, 98, 99] _ (by decide)) (by decide)) (open_short (by decide))).mono ?_
  rintro e w3 ⟨A3, n3, c3, rfl, s3, f3, b3⟩
  replace b3 := ((Below.refl _ w2).alloc (Nat.le_refl _) _).trans (b3.mono (by simp))
  replace s2 := s2.below b3
  replace b1 := b1.trans (b3.mono b1.size)
  have hT3 := hT.below b1
  clear f3 b3 s3 hT2
  go_wp2_with fail
  refine (named (Sum_num _ 5 5 [49, 50, 51, 52, 53] 416359221 (by decide +kernel) _ (hT3.alloc _) (by exact slm w3 [49, 50, 51, 52, 53] _ (by decide)))).mono ?_
  rintro e w4 ⟨rfl, b4⟩
  replace b4 := alloc_below b4
  replace s2 := s2.below b4
  replace b1 := b1.trans (b4.mono b1.size)
  have hT4 := hT.below b1
  clear b4 hT3
  go_wp2_with fail
  refine (named (Sum_num _ 4 4 [54, 55, 56, 57] 3263061426 (by decide +kernel) _ (hT4.alloc _) (by exact slm w4 [54, 55, 56, 57] _ (by decide)))).mono ?_
  rintro e w5 ⟨rfl, b4⟩
  replace b4 := alloc_below b4
  replace s2 := s2.below b4
  replace b1 := b1.trans (b4.mono b1.size)
  have hT5 := hT.below b1
  clear b4 hT4
  go_wp2_with fail
  refine (named (Sum_num _ 9 9 [49, 50, 51, 52, 53, 54, 55, 56, 57] 3808858755 (by decide +kernel) _ (hT5.alloc _) (by exact slm w5 [49, 50, 51, 52, 53, 54, 55, 56, 57] _ (by decide)))).mono ?_
  rintro e w6 ⟨rfl, b4⟩
  replace b4 := alloc_below b4
  replace s2 := s2.below b4
  replace b1 := b1.trans (b4.mono b1.size)
  have hT6 := hT.below b1
  clear b4 hT5
  go_wp2_with fail
  refine (Sum_num none 0 0 [] 0 (by decide +kernel) w6 hT6 (Sl.nil _)).mono ?_
  rintro e w7 ⟨rfl, rfl⟩
  go_wp2_with fail
  refine (named (More_num (BitVec.ofNat 32 416359221) 416359221 (by decide +kernel) _ 4 4 [54, 55, 56, 57] 3808858755 (by decide +kernel) _ (hT6.alloc _) (by exact slm w6 [54, 55, 56, 57] _ (by decide)))).mono ?_
  rintro e w7 ⟨rfl, b4⟩
  replace b4 := alloc_below b4
  replace s2 := s2.below b4
  replace b1 := b1.trans (b4.mono b1.size)
  clear b4 hT6
  go_wp2_with fail
  refine (Join_num (BitVec.ofNat 32 416359221) (BitVec.ofNat 32 3263061426) 416359221 3263061426 (by decide +kernel) (by decide +kernel) 4 4 (by decide) 3808858755 (by decide +kernel) w7).mono ?_
  rintro e w8 ⟨rfl, rfl⟩
  have q2 := str_of s2
  go_wp2
  go_ret
  exact ⟨rfl, b1⟩
end Go.Proofs.YtdjengpjbgejlaaDoor
