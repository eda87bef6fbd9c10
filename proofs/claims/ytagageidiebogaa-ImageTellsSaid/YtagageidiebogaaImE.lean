/-
  Merged: XImRef7 XImRef8.
-/
import Derived.Test.YtagageidiebogaaImD
import Derived.Test.YtagageidiebogaaImB
import Derived.Test.YtagageidiebogaaImA
import Derived.Test.YtagageidiebogaaRef7g
import Derived.Deep.Cut
import Derived.Test.YtagageidiebogaaEmRef
/-
  Contract of the document's Of of extents (written by gen_imref7.py).
-/
namespace Go.Wag
open Go.RowKit
set_option linter.unusedVariables false
section
variable {P : Program} {w : World} {ops : Array Oper} {rest : List Oper} {o : Oper} {a : Act} {Q : Exit → Act → World → Prop}
theorem wpList_storeLP (hgd : o.guard = none) {g : Nat} {cur : Array Value} {t : TypeId} (B : Blk w g cur t) (ty : TypeId) (x y : Operand) (ho : o.op = .store ty x y) {p : Nat} {vs : List Value} (hx : a.eval x = .pointer (some ⟨g, p, none⟩)) (hy : a.eval y = .agg vs.toArray) (hfit : p + vs.length ≤ cur.size) (h1 : ∀ v ∈ vs, v.oneCell' = true) (hi : (P.info? ty).map (·.size) = some vs.length)
    (hgo : wpList P ops Q rest (a.put o.dst undef) (setL w g p vs)) : wpList P ops Q (o :: rest) a w := wpList_plain hgd fun _ hK => wp_storeL B ty x y ho hx hy hfit h1 hi (hK _ _ hgo)
end
theorem imOwnFrom {B : Nat} {e : TypeId} {w0 w' : World} {v0 : Value} {A : Option Addr} {n c : Nat} {xs : List Value} (h : Go.Wag.Own B e w0 w' v0 (.slice A n c) n xs) : ∀ ad, A = some ad → B ≤ ad.block := by
  rintro ad rfl
  rcases h.own.2 with ⟨hv, _⟩ | ⟨g, cap, cur, hv, hg, _⟩
  · simp at hv
  · simp only [Value.slice.injEq, Option.some.injEq] at hv
    obtain ⟨rfl, _⟩ := hv
    exact hg
end Go.Wag
namespace Go.Proofs.Ytagageidiebogaa
open Go.RowKit Go.Wag
set_option linter.unusedVariables false
set_option linter.unusedSimpArgs false
set_option maxRecDepth 20000
/-- Extents in new memory. -/
def XNew (w : World) (ys : List Xp) (e : Ending) (w' : World) : Prop := ∃ A n c, Hid (ys.length = n) ∧ e = .returned (.slice A n c) ∧ Rs extE (fun x => w.heap.size ≤ x) w' A n c ys ∧ Below w.heap.size w w'
set_option maxHeartbeats 16000000 in
theorem fOf_any {F : Nat → Prop} (xs : List Cp) (A : Option Addr) (n c : Nat) (w : World) (h : Rs cpE F w A n c xs) (hi : ichk xs = true) :
    Calls Try.prog 27 #[.slice A n c] w (XNew w (imap xs)) := by
  have HN : Hid (xs.length = n) := h.len
  have hcap := h.cap
  have hbig := h.big
  have hwfs := h.wfs
  obtain ⟨iX, hiX, hzX, hsX, hbX⟩ := iExt
  obtain ⟨ib, hib, hb0, hb1, hb2⟩ := info_parts i5
  obtain ⟨⟨h1, h64⟩, hoks⟩ := ichk_iff.1 hi
  have hn64 : n ≤ 64 := by rw [← HN.out]; exact h64
  replace hoks := Lib.hid hoks
  clear h1 h64
  go_enter Try.func27, Try.ntmps27
  go_wp2_with fail
  go_loopg [3, 4] n (fun q o i wr => ∃ (k : Nat) (Ar : Option Addr) (nr cr : Nat), k + q = n ∧ o = .slice Ar nr cr ∧ i = .int .i64 (k : Int) ∧ nr ≤ k ∧ Rq extE (fun z => w.heap.size ≤ z) w.heap.size 41 wr Ar nr cr (imap (xs.take k)) ∧ Below w.heap.size w wr)
  case atStart => exact ⟨0, none, 0, 0, by omega, rfl, rfl, by omega, by rw [List.take_zero, imap_nil]; exact Rq.nil _ _ _ _ _, Below.refl _ _⟩
  case round =>
    obtain ⟨k, Ar, nr, cr, hk, rfl, rfl, hnr, R, bb⟩ := hrel
    by_cases hlt : (k : Int) < (n : Int)
    · obtain ⟨q, rfl⟩ : ∃ q, gk = q + 1 := ⟨gk - 1, by omega⟩
      obtain ⟨gb, o, x, rfl, _, hg, hz, C0⟩ := h.cp_at (show k < n by omega)
      have C := C0.below bb hg
      have hxw := C.1.len
      have hxwf := C.1
      have htk := take_one hz
      have htl : (xs.take k).length = k := by rw [List.length_take]; have := HN.out; omega
      have hpok := imap_ok (l := xs.take k) (fun c hc => (hwfs c (List.mem_of_mem_take hc)).len) (fun c hc => hoks.out c (List.mem_of_mem_take hc)) (by omega)
      clear C0 hz
      go_upto_region 6 with (first | with_reducible refine wpList_loadCP rfl 46 (.tmp 17) rfl rfl C Try.underlying46 szC ?_ | with_reducible refine wpList_new rfl 46 rfl (cpA c0p) 46 allocC ?_ | with_reducible refine wpList_varC rfl 46 (.tmp 5) (.tmp 18) rfl (Blk.new wr (cpA c0p) 46) rfl hxw rfl rfl szC ?_)
      try simp only [Act.put, List.setIfInBounds_toArray, List.set_cons_zero, List.set_cons_succ]
      simp only [setRow_new]
      have V := Cs.var (w := wr) (t := 46) hxwf
      have a1 := (Below.refl wr.heap.size wr).alloc (Nat.le_refl _) (.cells (cpA x) 46)
      replace R := R.under a1
      replace bb := bb.trans (a1.mono bb.size)
      have hkc0 : wr.heap.size < (wr.alloc (.cells (cpA x) 46)).heap.size := by simp
      clear C a1
      generalize wr.alloc (.cells (cpA x) 46) = w3 at *
      obtain ⟨kc, hkc⟩ : ∃ z, wr.heap.size = z := ⟨_, rfl⟩
      simp only [hkc] at V hkc0 ⊢
      clear hkc
      obtain ⟨y, hy⟩ : ∃ y, oneX k x = y := ⟨_, rfl⟩
      have hyla : y.la ≤ 9223372036854775807 := by rw [← hy]; show (k : Int) ≤ _; omega
      have hyl : y.l = if x.k = 2 then x.d else [] := by rw [← hy]; rfl
      have hyE : (⟨(k : Int), 1, x.k, x.g, y.l⟩ : Xp) = y := by rw [← hy]; rfl
      have v0 := V.kind
      have v1 : w3.cell? ⟨kc, 1, none⟩ = some (.int .i64 x.g) := V.gen
      have hkb := bb.size
      obtain ⟨kx, hkx⟩ : ∃ z, w3.heap.size = z := ⟨_, rfl⟩
      have R' := R.imp (F' := fun z => w.heap.size ≤ z ∧ z ≠ kx) (fun z hz hF => ⟨hF, by omega⟩)
      have hroo := R'.lt
      have hkR : ∀ b, (Value.slice Ar nr cr).ownBlock = some b → b < kx := fun b hb => by rw [← hkx]; exact (hroo b hb).2
      clear hroo R
      have X := Blk.new w3 #[.int .i64 (k : Int), .int .i64 1, .int .i64 x.k, .int .i64 x.g, .slice none 0 0] 41
      have a1 := (Below.refl w3.heap.size w3).alloc (Nat.le_refl _) (.cells #[.int .i64 (k : Int), .int .i64 1, .int .i64 x.k, .int .i64 x.g, .slice none 0 0] 41)
      go_upto_region 7 with (fail)
      try simp only [Act.put, List.setIfInBounds_toArray, List.set_cons_zero, List.set_cons_succ]
      rw [hkx] at X hkc0 hkb
      replace R' := R'.under a1
      replace bb := bb.trans (a1.mono bb.size)
      replace V := V.below a1 (by rw [hkx]; exact hkc0)
      generalize w3.alloc (.cells #[.int .i64 (k : Int), .int .i64 1, .int .i64 x.k, .int .i64 x.g, .slice none 0 0] 41) = w4 at *
      simp only [hkx] at *
      clear a1 v0 v1 hkx
      have v0 := V.kind
      have hxl := X.lt
      by_cases hk2 : x.k = 2
      · have hk2b : (x.k == 2) = true := by simpa using hk2
        have DS : Sl w4 (some ⟨kc, 2, none⟩) 32 32 (x.d.map v8) := V.data (by omega) (Nat.le_refl _) (by decide)
        rw [if_pos hk2] at hyl
        replace hk2 := Lib.hid hk2
        have hkxw : w.heap.size ≤ kx := hkb
        go_wp2_with fail
        refine wp_region_held_drew (S := fun w' => But kx w4 w') (by kernel_rfl) (But.refl _ _).drew (fun hHeld => ?_)
        try dsimp only at hHeld
        have Xd := X.drew
        have Rd := R'.drew
        have DSd := DS.drew
        have bbd := bb.drew
        have hxd : kx < w4.drew.heap.size := hxl
        generalize w4.drew = wd at *
        try simp only [Act.put, List.setIfInBounds_toArray, List.set_cons_zero, List.set_cons_succ]
        refine wpAnyH_take (i := 0) (v := ?_) (by simp only [List.getElem?_toArray, List.getElem?_cons_zero]; rfl) (by kernel_rfl) (by kernel_rfl) (by kernel_rfl) (by intro _ _ _ h; exact h) (Or.inl ⟨by rfl, ?_⟩) hHeld ?_
        rotate_left 1
        · intro wq hSw
          try dsimp only at hSw
          go_simp
          try (with_reducible rfl)
        try simp only [Act.put, List.setIfInBounds_toArray, List.set_cons_zero, List.set_cons_succ]
        refine wpAnyH_take (i := 2) (v := ?_) (by simp only [List.getElem?_toArray, List.getElem?_cons_succ, List.getElem?_cons_zero]; rfl) (by kernel_rfl) (by kernel_rfl) (by kernel_rfl) (by intro _ _ _ h; exact h) (Or.inl ⟨by rfl, ?_⟩) hHeld ?_
        rotate_left 1
        · intro wq hSw
          try dsimp only at hSw
          go_simp
          try (with_reducible rfl)
        try simp only [Act.put, List.setIfInBounds_toArray, List.set_cons_zero, List.set_cons_succ]
        refine wpAnyH_take (i := 3) (v := ?_) (by simp only [List.getElem?_toArray, List.getElem?_cons_succ, List.getElem?_cons_zero]; rfl) (by kernel_rfl) (by kernel_rfl) (by kernel_rfl) (by intro _ _ _ h; exact h) (Or.inl ⟨by rfl, ?_⟩) hHeld ?_
        rotate_left 1
        · intro wq hSw
          try dsimp only at hSw
          go_simp
          try (with_reducible rfl)
        try simp only [Act.put, List.setIfInBounds_toArray, List.set_cons_zero, List.set_cons_succ]
        refine wpAnyH_ready (rs := [1]) (by kernel_rfl) (by simp) ?_
        refine AllReadyH.cons (by simp only [List.getElem?_toArray, List.getElem?_cons_succ, List.getElem?_cons_zero]; rfl) (fun K hK => ?_) AllReadyH.nil
        obtain ⟨q0, q1, q2, q3, q4, _⟩ := Xd.five
        go_simp
        refine hK.out _ _ (hHeld) (fun hHeld => ?_)
        clear hK K
        try dsimp only at hHeld
        clear q0 q1 q2 q3 q4
        try simp only [Act.put, List.setIfInBounds_toArray, List.set_cons_zero, List.set_cons_succ]
        refine wpAnyH_ready (rs := [4]) (by kernel_rfl) (by simp) ?_
        refine AllReadyH.cons (by simp only [List.getElem?_toArray, List.getElem?_cons_succ, List.getElem?_cons_zero]; rfl) (fun K hK => ?_) AllReadyH.nil
        obtain ⟨A1, c1, wx, hr, hO⟩ := run_app (P := Try.prog) (Go.Wag.Own.start (base := wd.heap.size) (World.ownsRow_nil _ _ _ _) (Nat.le_refl _)) 37 37 ib (.int .u8 0) 1 Try.underlying37 hib hb0 hb1 hb2 rfl _ _ _ _ DSd (oneCell8 _) (by omega) (by omega)
        simp only [Nat.zero_add] at hr hO
        refine (if_pos (by rfl)).mpr (wp_app (.tmp 29) (.tmp 31) 37 rfl rfl rfl hr ?_)
        have s9 := hO.to_sl
        rw [List.nil_append] at s9
        have hfr := imOwnFrom hO
        have bO := hO.below (Below.refl _ _) (Nat.le_refl _) (fun k hk => by cases hk)
        have bN : But kx w4 wx := hHeld.call bO
        have hfr9 : ∀ ad, A1 = some ad → kx < ad.block := fun ad e => by have h1 := hfr ad e; omega
        have hne9 : 0 < 32 → ∀ ad, A1 = some ad → ad.block ≠ kx := fun _ ad e => by have h1 := hfr9 ad e; omega
        have X7 := Xd.under bO
        have R7 := Rd.under bO
        have bb7 := bbd.trans (bO.mono bbd.size)
        clear hr hO hfr
        refine hK.out _ _ (bN) (fun hHeld => ?_)
        clear hK K
        try dsimp only at hHeld
        clear bN
        try simp only [Act.put, List.setIfInBounds_toArray, List.set_cons_zero, List.set_cons_succ]
        refine wpAnyH_take (i := 5) (v := ?_) (by simp only [List.getElem?_toArray, List.getElem?_cons_succ, List.getElem?_cons_zero]; rfl) (by kernel_rfl) (by kernel_rfl) (by kernel_rfl) (by intro _ _ _ h; exact h) (Or.inl ⟨by rfl, ?_⟩) hHeld ?_
        rotate_left 1
        · intro wq hSw
          try dsimp only at hSw
          go_simp
          try (with_reducible rfl)
        try simp only [Act.put, List.setIfInBounds_toArray, List.set_cons_zero, List.set_cons_succ]
        refine wpAnyH_ready (rs := [6]) (by kernel_rfl) (by simp) ?_
        refine AllReadyH.cons (by simp only [List.getElem?_toArray, List.getElem?_cons_succ, List.getElem?_cons_zero]; rfl) (fun K hK => ?_) AllReadyH.nil
        obtain ⟨q0, q1, q2, q3, q4, i0', i1', i2', i3', i4'⟩ := X7.five
        go_simp
        have X8 := X7.set 4 (.slice A1 32 c1)
        simp only [List.setIfInBounds_toArray, List.set_cons_zero, List.set_cons_succ] at X8
        have s8 := s9.farz (a := ⟨kx, 4, none⟩) hne9 (.slice A1 32 c1)
        have R8 := R7.grown (grown_set wx ⟨kx, 4, none⟩ (.slice A1 32 c1)) (fun b hb e => by have h1 := hkR b hb; have h2 : kx = b := Option.some.inj e; omega) (fun b _ hF e => hF.2 (Option.some.inj e).symm)
        have bb8 := bb7.setCell (p := ⟨kx, 4, none⟩) hkxw (.slice A1 32 c1)
        have bS := hHeld.set 4 (.slice A1 32 c1)
        clear q0 q1 q2 q3 q4 i0' i1' i2' i3' i4' X7 R7 bb7 s9
        generalize wx.setCell ⟨kx, 4, none⟩ (.slice A1 32 c1) = w5 at *
        refine hK.out _ _ (bS) (fun hHeld => ?_)
        clear hK K
        try dsimp only at hHeld
        clear bS
        try simp only [Act.put, List.setIfInBounds_toArray, List.set_cons_zero, List.set_cons_succ]
        refine wpAnyH_done (by kernel_rfl) ?_ _
        have hs45 := hHeld.size
        clear hHeld X R' bb V v0 DS
        have X := X8
        have bb := bb8
        have S1 : Sl w5 A1 32 c1 (y.l.map v8) := by rw [hyl]; exact s8
        obtain ⟨m1, hm1e⟩ : ∃ m, 32 = m := ⟨_, rfl⟩
        have hm1 : Hid (m1 = y.l.length) := by show m1 = _; rw [← hm1e, hyl, hxw]
        simp only [hm1e] at X S1 ⊢
        have R := R8.imp (F' := fun z => w.heap.size ≤ z) (fun z _ hF => hF.1)
        have hA1 : ∀ ad, A1 = some ad → w.heap.size ≤ ad.block ∧ (Value.slice Ar nr cr).ownBlock ≠ some ad.block := fun ad ea => by have h1 := hfr9 ad ea; exact ⟨by omega, fun e => by have := hkR _ e; omega⟩
        clear X8 bb8 s8 R8 hne9 hfr9 hyl hm1e
        rcases Nat.eq_zero_or_pos k with hk0 | hk0
        · skip
          subst hk0
          have hl1 : imap (xs.take 0) ++ [y] = imap (xs.take (0 + 1)) := by rw [htk, List.take_zero, imap_nil, ← hy]; rfl
          obtain rfl : nr = 0 := by omega
          replace hl1 := Lib.hid hl1
          replace hy := Lib.hid hy
          clear htk htl hpok
          go_upto_region 13 with (fail)
          have hrd : extE.rd (fun z => w.heap.size ≤ z ∧ (Value.slice Ar 0 cr).ownBlock ≠ some z) w5 [.int .i64 ((0 : Nat) : Int), .int .i64 1, .int .i64 x.k, .int .i64 x.g, .slice A1 m1 c1] y := ⟨A1, c1, by rw [← hyE, ← hm1.out], by rw [← hm1.out]; exact S1, fun _ ad ea => hA1 ad ea⟩
          have a1 := (Below.refl w5.heap.size w5).alloc (Nat.le_refl _) (.cells #[.int .i64 ((0 : Nat) : Int), .int .i64 1, .int .i64 x.k, .int .i64 x.g, .slice A1 m1 c1] 41)
          have Bs := Blk.new w5 #[.int .i64 ((0 : Nat) : Int), .int .i64 1, .int .i64 x.k, .int .i64 x.g, .slice A1 m1 c1] 41
          obtain ⟨x0', x1', x2', x3', x4', _⟩ := X.five
          replace R := R.under a1
          replace hrd := Elt.below hrd a1
          replace bb := bb.trans (a1.mono bb.size)
          obtain ⟨A5, c5, w9, hr, R5, gr, hlies⟩ := R.app (P := Try.prog) (T := 23) (ty := 23) Try.underlying23 hiX hzX hsX hbX rfl bb.size (by omega) (by omega) hrd (one_ext _ _ _ _ _ _ _) Bs
          have hro := R.lt
          have bb6 := bb.grown gr bb.size (fun z hz => (hro z hz).1)
          rw [hl1.out] at R5
          clear hro gr hrd Bs hlies R bb a1
          go_wp2_with (at_builtin; refine wpList_run rfl (.tmp 56) (.tmp 58) 23 rfl rfl rfl hr ?_; intro _)
          go_roundg q
          case measure => omega
          case rel => exact ⟨0 + 1, A5, _, c5, by omega, rfl, by first | rfl | (simp; done), by omega, R5, bb6⟩
        · skip
          obtain ⟨M, z, hM1, hM2⟩ := imap_snoc (l := xs.take k) (by intro e; rw [e] at htl; simp at htl; omega) x
          rw [← htk, htl, hy] at hM2
          rw [hM1] at R hpok
          have hnl := R.len
          have hn0 : 0 < nr := by rw [← hnl]; simp
          obtain ⟨p, hp⟩ : ∃ p, nr - 1 = p := ⟨_, rfl⟩
          have hp1 : (nr : Int) - 1 = (p : Int) := by omega
          have hpl : p < nr := by omega
          have hzp : (M ++ [z])[p]? = some z := by rw [List.length_append, List.length_singleton] at hnl; rw [List.getElem?_append_right (by omega), show p - M.length = 0 by omega]; rfl
          have hset : ∀ u : Xp, (M ++ [z]).set p u = M ++ [u] := by intro u; rw [List.length_append, List.length_singleton] at hnl; rw [List.set_append_right _ _ (by omega), show p - M.length = 0 by omega]; rfl
          have hpm : p < (M ++ [z]).length := by rw [hnl]; exact hpl
          have hzo := hpok z (by simp)
          obtain ⟨gm, cur, rfl, hBg, hnc, hcb2, hsz, Bk, Ro0⟩ := R.openB hn0
          obtain ⟨Az, cz, z0, z1, z2, z3, z4, Sz, _⟩ := Ro.ext_at Ro0 hzp
          obtain ⟨mz, hmz⟩ : ∃ m, z.l.length = m := ⟨_, rfl⟩
          rw [hmz] at z4 Sz
          have hgl := Bk.lt
          have hgx : gm < kx := hkR gm rfl
          obtain ⟨er, her⟩ : ∃ v, errOf (xjoin z y) 70 = v := ⟨_, rfl⟩
          obtain ⟨u, hu⟩ : ∃ v, (xjoin z y).getD x0 = v := ⟨_, rfl⟩
          have hjn := fun (W : World) (s1 : Sl W Az mz cz (z.l.map v8)) (s2 : Sl W A1 m1 c1 (y.l.map v8)) => EPost.eq (fJoin_any z.la z.n z.k z.g Az mz cz z.l (k : Int) 1 x.k x.g A1 m1 c1 y.l W s1 s2) rfl rfl
          simp only [hyE] at hjn
          rw [show (⟨z.la, z.n, z.k, z.g, z.l⟩ : Xp) = z from rfl] at hjn
          simp only [her, hu] at hjn
          have hn64b : nr ≤ 64 := by omega
          replace hmz := Lib.hid hmz
          replace hM1 := Lib.hid hM1
          replace hM2 := Lib.hid hM2
          replace hp := Lib.hid hp
          replace hy := Lib.hid hy
          replace her := Lib.hid her
          replace hu := Lib.hid hu
          replace hset := Lib.hid hset
          replace hpm := Lib.hid hpm
          replace hzp := Lib.hid hzp
          clear hpok htk htl hnl hzo
          go_wp2_with fail
          refine region_join (α := Nat → Option Addr → Nat → Nat → Act) (R := fun T a w' => ∃ (kv : Nat) (A9 : Option Addr) (m9 c9 : Nat), a = T kv A9 m9 c9 ∧ Hid (m9 = u.l.length) ∧ Blk w' kv #[.int .i64 u.la, .int .i64 u.n, .int .i64 u.k, .int .i64 u.g, .slice A9 m9 c9] 41 ∧ Sl w' A9 m9 c9 (u.l.map v8) ∧ (∀ ad, A9 = some ad → w5.heap.size ≤ ad.block) ∧ w5.heap.size ≤ kv ∧ Below w5.heap.size w5 w') ?T10 ?body10 ?rest10
          case body10 =>
            refine wp_region_held_drew (S := fun w' => Below w5.heap.size w5 w') (by kernel_rfl) (Below.refl _ _).drew (fun hHeld => ?_)
            try dsimp only at hHeld
            generalize w5.drew = wd at *
            try simp only [Act.put, List.setIfInBounds_toArray, List.set_cons_zero, List.set_cons_succ]
            refine wpAnyH_take (i := 0) (v := ?_) (by simp only [List.getElem?_toArray, List.getElem?_cons_zero]; rfl) (by kernel_rfl) (by kernel_rfl) (by kernel_rfl) (by intro _ _ _ h; exact nomatch h.1) (Or.inl ⟨by rfl, ?_⟩) hHeld ?_
            rotate_left 1
            · intro wq hSw
              try dsimp only at hSw
              go_simp
              try (with_reducible rfl)
            try simp only [Act.put, List.setIfInBounds_toArray, List.set_cons_zero, List.set_cons_succ]
            refine wpAnyH_take (i := 1) (v := ?_) (by simp only [List.getElem?_toArray, List.getElem?_cons_succ, List.getElem?_cons_zero]; rfl) (by kernel_rfl) (by kernel_rfl) (by kernel_rfl) (by intro _ _ _ h; exact nomatch h.1) (Or.inl ⟨by rfl, ?_⟩) hHeld ?_
            rotate_left 1
            · intro wq hSw
              try dsimp only at hSw
              go_simp
              try (with_reducible rfl)
            try simp only [Act.put, List.setIfInBounds_toArray, List.set_cons_zero, List.set_cons_succ]
            refine wpAnyH_take (i := 2) (v := ?_) (by simp only [List.getElem?_toArray, List.getElem?_cons_succ, List.getElem?_cons_zero]; rfl) (by kernel_rfl) (by kernel_rfl) (by kernel_rfl) (by intro _ _ _ h; exact nomatch h.1) (Or.inl ⟨by rfl, ?_⟩) hHeld ?_
            rotate_left 1
            · intro wq hSw
              try dsimp only at hSw
              go_simp
              try (with_reducible rfl)
            try simp only [Act.put, List.setIfInBounds_toArray, List.set_cons_zero, List.set_cons_succ]
            refine wpAnyH_take (i := 3) (v := (.int .i64 (p : Int))) (by simp only [List.getElem?_toArray, List.getElem?_cons_succ, List.getElem?_cons_zero]; rfl) (by kernel_rfl) (by kernel_rfl) (by kernel_rfl) (by intro _ _ _ h; exact nomatch h.1) (Or.inl ⟨by rfl, ?_⟩) hHeld ?_
            · intro wq hSw
              try dsimp only at hSw
              go_simp
              rw [IntWalk.i64_left]
              unfold wrap64
              have := hp.out
              omega
            try simp only [Act.put, List.setIfInBounds_toArray, List.set_cons_zero, List.set_cons_succ]
            refine wpAnyH_take (i := 4) (v := ?_) (by simp only [List.getElem?_toArray, List.getElem?_cons_succ, List.getElem?_cons_zero]; rfl) (by kernel_rfl) (by kernel_rfl) (by kernel_rfl) (by intro _ _ _ h; exact nomatch h.1) (Or.inl ⟨by rfl, ?_⟩) hHeld ?_
            rotate_left 1
            · intro wq hSw
              try dsimp only at hSw
              go_simp
              try (with_reducible rfl)
            try simp only [Act.put, List.setIfInBounds_toArray, List.set_cons_zero, List.set_cons_succ]
            refine wpAnyH_take (i := 5) (v := ?_) (by simp only [List.getElem?_toArray, List.getElem?_cons_succ, List.getElem?_cons_zero]; rfl) (by kernel_rfl) (by kernel_rfl) (by kernel_rfl) (by intro _ _ _ h; exact nomatch h.1) (Or.inl ⟨by rfl, ?_⟩) hHeld ?_
            rotate_left 1
            · intro wq hSw
              try dsimp only at hSw
              have y0 := (hSw.cell (p := ⟨gm, p * 5, none⟩) hgl).trans z0
              have y1 := (hSw.cell (p := ⟨gm, p * 5 + 1, none⟩) hgl).trans z1
              have y2 := (hSw.cell (p := ⟨gm, p * 5 + 2, none⟩) hgl).trans z2
              have y3 := (hSw.cell (p := ⟨gm, p * 5 + 3, none⟩) hgl).trans z3
              have y4 := (hSw.cell (p := ⟨gm, p * 5 + 4, none⟩) hgl).trans z4
              go_simp
              try (with_reducible rfl)
            try simp only [Act.put, List.setIfInBounds_toArray, List.set_cons_zero, List.set_cons_succ]
            refine wpAnyH_take (i := 6) (v := ?_) (by simp only [List.getElem?_toArray, List.getElem?_cons_succ, List.getElem?_cons_zero]; rfl) (by kernel_rfl) (by kernel_rfl) (by kernel_rfl) (by intro _ _ _ h; exact nomatch h.1) (Or.inl ⟨by rfl, ?_⟩) hHeld ?_
            rotate_left 1
            · intro wq hSw
              try dsimp only at hSw
              obtain ⟨q0, q1, q2', q3, q4, _⟩ := (X.under hSw).five
              go_simp
              try (with_reducible rfl)
            try simp only [Act.put, List.setIfInBounds_toArray, List.set_cons_zero, List.set_cons_succ]
            refine wpAnyH_ready (rs := [7, 11]) (by kernel_rfl) (by simp) ?_
            refine AllReadyH.cons (by simp only [List.getElem?_toArray, List.getElem?_cons_succ, List.getElem?_cons_zero]; rfl) (fun K hK => ?_) (AllReadyH.cons (by simp only [List.getElem?_toArray, List.getElem?_cons_succ, List.getElem?_cons_zero]; rfl) (fun K hK => ?_) AllReadyH.nil)
            · skip
              have hC := hjn wd (Sz.below hHeld) (S1.below hHeld)
              go_simp
              refine hC.mono ?_
              clear hC
              rintro e w_7 ⟨A9, m9, c9, hm9, rfl, N9, b9⟩
              have bN := hHeld.trans (b9.mono hHeld.size)
              have hf9 : ∀ ad, A9 = some ad → w5.heap.size ≤ ad.block := fun ad e => by have h1 := N9.fr ad e; have h2 := hHeld.size; omega
              have s9 := N9.sl
              clear N9 b9
              go_wp2_with fail
              refine hK.out _ _ (bN) (fun hHeld => ?_)
              clear hK K
              try dsimp only at hHeld
              clear bN
              try simp only [Act.put, List.setIfInBounds_toArray, List.set_cons_zero, List.set_cons_succ]
              refine wpAnyH_take (i := 8) (v := ?_) (by simp only [List.getElem?_toArray, List.getElem?_cons_succ, List.getElem?_cons_zero]; rfl) (by kernel_rfl) (by kernel_rfl) (by kernel_rfl) (by intro _ _ _ h; exact nomatch h.1) (Or.inl ⟨by rfl, ?_⟩) hHeld ?_
              rotate_left 1
              · intro wq hSw
                try dsimp only at hSw
                go_simp
                try (with_reducible rfl)
              try simp only [Act.put, List.setIfInBounds_toArray, List.set_cons_zero, List.set_cons_succ]
              refine wpAnyH_take (i := 9) (v := ?_) (by simp only [List.getElem?_toArray, List.getElem?_cons_succ, List.getElem?_cons_zero]; rfl) (by kernel_rfl) (by kernel_rfl) (by kernel_rfl) (by intro _ _ _ h; exact nomatch h.1) (Or.inl ⟨by rfl, ?_⟩) hHeld ?_
              rotate_left 1
              · intro wq hSw
                try dsimp only at hSw
                go_simp
                try (with_reducible rfl)
              try simp only [Act.put, List.setIfInBounds_toArray, List.set_cons_zero, List.set_cons_succ]
              refine wpAnyH_take (i := 10) (v := ?_) (by simp only [List.getElem?_toArray, List.getElem?_cons_succ, List.getElem?_cons_zero]; rfl) (by kernel_rfl) (by kernel_rfl) (by kernel_rfl) (by intro _ _ _ h; exact nomatch h.1) (Or.inl ⟨by rfl, ?_⟩) hHeld ?_
              rotate_left 1
              · intro wq hSw
                try dsimp only at hSw
                go_simp
                try (with_reducible rfl)
              try simp only [Act.put, List.setIfInBounds_toArray, List.set_cons_zero, List.set_cons_succ]
              refine wpAnyH_ready (rs := [11]) (by kernel_rfl) (by simp) ?_
              refine AllReadyH.cons (by simp only [List.getElem?_toArray, List.getElem?_cons_succ, List.getElem?_cons_zero]; rfl) (fun K hK => ?_) AllReadyH.nil
              obtain ⟨kv, hkv⟩ : ∃ k, w_7.heap.size = k := ⟨_, rfl⟩
              go_simp
              try simp only [hkv]
              have V := Blk.new w_7 #[.int .i64 0, .int .i64 0, .int .i64 0, .int .i64 0, .slice none 0 0] 41
              rw [hkv] at V
              have hcv : w5.heap.size ≤ kv := by rw [← hkv]; exact hHeld.size
              have bN := hHeld.alloc hHeld.size (.cells #[.int .i64 0, .int .i64 0, .int .i64 0, .int .i64 0, .slice none 0 0] 41)
              have hne9 : 0 < m9 → ∀ ad, A9 = some ad → ad.block ≠ kv := fun h0 ad e => by obtain ⟨ad', e', hb, _⟩ := s9.cells h0; cases e.symm.trans e'; omega
              replace s9 := s9.alloc (.cells #[.int .i64 0, .int .i64 0, .int .i64 0, .int .i64 0, .slice none 0 0] 41)
              clear hkv
              generalize w_7.alloc (.cells #[.int .i64 0, .int .i64 0, .int .i64 0, .int .i64 0, .slice none 0 0] 41) = w_7_11 at *
              refine hK.out _ _ (bN) (fun hHeld => ?_)
              clear hK K
              try dsimp only at hHeld
              clear bN
              try simp only [Act.put, List.setIfInBounds_toArray, List.set_cons_zero, List.set_cons_succ]
              refine wpAnyH_ready (rs := [12]) (by kernel_rfl) (by simp) ?_
              refine AllReadyH.cons (by simp only [List.getElem?_toArray, List.getElem?_cons_succ, List.getElem?_cons_zero]; rfl) (fun K hK => ?_) AllReadyH.nil
              skip
              obtain ⟨q0, q1, q2, q3, q4, i0', i1', i2', i3', i4'⟩ := V.five
              go_simp
              have V2 := (((((V.set 0 (.int .i64 u.la)).set 1 (.int .i64 u.n)).set 2 (.int .i64 u.k)).set 3 (.int .i64 u.g)).set 4 (.slice A9 m9 c9))
              simp only [List.setIfInBounds_toArray, List.set_cons_zero, List.set_cons_succ] at V2
              have bN := (((((hHeld.setCell (p := ⟨kv, 0, none⟩) hcv (.int .i64 u.la)).setCell (p := ⟨kv, 1, none⟩) hcv (.int .i64 u.n)).setCell (p := ⟨kv, 2, none⟩) hcv (.int .i64 u.k)).setCell (p := ⟨kv, 3, none⟩) hcv (.int .i64 u.g)).setCell (p := ⟨kv, 4, none⟩) hcv (.slice A9 m9 c9))
              have s2 := (((((s9.farz (a := ⟨kv, 0, none⟩) hne9 (.int .i64 u.la)).farz (a := ⟨kv, 1, none⟩) hne9 (.int .i64 u.n)).farz (a := ⟨kv, 2, none⟩) hne9 (.int .i64 u.k)).farz (a := ⟨kv, 3, none⟩) hne9 (.int .i64 u.g)).farz (a := ⟨kv, 4, none⟩) hne9 (.slice A9 m9 c9))
              clear q0 q1 q2 q3 q4 i0' i1' i2' i3' i4' V s9
              generalize (((((w_7_11.setCell ⟨kv, 0, none⟩ (.int .i64 u.la)).setCell ⟨kv, 1, none⟩ (.int .i64 u.n)).setCell ⟨kv, 2, none⟩ (.int .i64 u.k)).setCell ⟨kv, 3, none⟩ (.int .i64 u.g)).setCell ⟨kv, 4, none⟩ (.slice A9 m9 c9)) = w_7_11_12 at *
              have V := V2
              have s9 := s2
              clear V2 s2
              refine hK.out _ _ (bN) (fun hHeld => ?_)
              clear hK K
              try dsimp only at hHeld
              clear bN
              try simp only [Act.put, List.setIfInBounds_toArray, List.set_cons_zero, List.set_cons_succ]
              refine wpAnyH_take (i := 13) (v := ?_) (by simp only [List.getElem?_toArray, List.getElem?_cons_succ, List.getElem?_cons_zero]; rfl) (by kernel_rfl) (by kernel_rfl) (by kernel_rfl) (by intro _ _ _ h; exact nomatch h.1) (Or.inl ⟨by rfl, ?_⟩) hHeld ?_
              rotate_left 1
              · intro wq hSw
                try dsimp only at hSw
                go_simp
                try (with_reducible rfl)
              try simp only [Act.put, List.setIfInBounds_toArray, List.set_cons_zero, List.set_cons_succ]
              refine wpAnyH_done (by kernel_rfl) ?_ _
              refine ⟨rfl, kv, A9, m9, c9, ?_, hm9, V, s9, hf9, hcv, hHeld⟩
              with_reducible rfl
            · skip
              obtain ⟨kv, hkv⟩ : ∃ k, wd.heap.size = k := ⟨_, rfl⟩
              go_simp
              try simp only [hkv]
              have V := Blk.new wd #[.int .i64 0, .int .i64 0, .int .i64 0, .int .i64 0, .slice none 0 0] 41
              rw [hkv] at V
              have hcv : w5.heap.size ≤ kv := by rw [← hkv]; exact hHeld.size
              have bN := hHeld.alloc hHeld.size (.cells #[.int .i64 0, .int .i64 0, .int .i64 0, .int .i64 0, .slice none 0 0] 41)
              clear hkv
              generalize wd.alloc (.cells #[.int .i64 0, .int .i64 0, .int .i64 0, .int .i64 0, .slice none 0 0] 41) = w_11 at *
              refine hK.out _ _ (bN) (fun hHeld => ?_)
              clear hK K
              try dsimp only at hHeld
              clear bN
              try simp only [Act.put, List.setIfInBounds_toArray, List.set_cons_zero, List.set_cons_succ]
              refine wpAnyH_ready (rs := [7]) (by kernel_rfl) (by simp) ?_
              refine AllReadyH.cons (by simp only [List.getElem?_toArray, List.getElem?_cons_succ, List.getElem?_cons_zero]; rfl) (fun K hK => ?_) AllReadyH.nil
              have hC := hjn w_11 (Sz.below hHeld) (S1.below hHeld)
              go_simp
              refine hC.mono ?_
              clear hC
              rintro e w_11_7 ⟨A9, m9, c9, hm9, rfl, N9, b9⟩
              have bN := hHeld.trans (b9.mono hHeld.size)
              have hf9 : ∀ ad, A9 = some ad → w5.heap.size ≤ ad.block := fun ad e => by have h1 := N9.fr ad e; have h2 := hHeld.size; omega
              have hvl := V.lt
              have hne9 : ∀ ad, A9 = some ad → ad.block ≠ kv := fun ad e => by have := N9.fr ad e; omega
              replace V := V.under b9
              have s9 := N9.sl
              clear N9 b9
              go_wp2_with fail
              refine hK.out _ _ (bN) (fun hHeld => ?_)
              clear hK K
              try dsimp only at hHeld
              clear bN
              try simp only [Act.put, List.setIfInBounds_toArray, List.set_cons_zero, List.set_cons_succ]
              refine wpAnyH_take (i := 8) (v := ?_) (by simp only [List.getElem?_toArray, List.getElem?_cons_succ, List.getElem?_cons_zero]; rfl) (by kernel_rfl) (by kernel_rfl) (by kernel_rfl) (by intro _ _ _ h; exact nomatch h.1) (Or.inl ⟨by rfl, ?_⟩) hHeld ?_
              rotate_left 1
              · intro wq hSw
                try dsimp only at hSw
                go_simp
                try (with_reducible rfl)
              try simp only [Act.put, List.setIfInBounds_toArray, List.set_cons_zero, List.set_cons_succ]
              refine wpAnyH_take (i := 9) (v := ?_) (by simp only [List.getElem?_toArray, List.getElem?_cons_succ, List.getElem?_cons_zero]; rfl) (by kernel_rfl) (by kernel_rfl) (by kernel_rfl) (by intro _ _ _ h; exact nomatch h.1) (Or.inl ⟨by rfl, ?_⟩) hHeld ?_
              rotate_left 1
              · intro wq hSw
                try dsimp only at hSw
                go_simp
                try (with_reducible rfl)
              try simp only [Act.put, List.setIfInBounds_toArray, List.set_cons_zero, List.set_cons_succ]
              refine wpAnyH_take (i := 10) (v := ?_) (by simp only [List.getElem?_toArray, List.getElem?_cons_succ, List.getElem?_cons_zero]; rfl) (by kernel_rfl) (by kernel_rfl) (by kernel_rfl) (by intro _ _ _ h; exact nomatch h.1) (Or.inl ⟨by rfl, ?_⟩) hHeld ?_
              rotate_left 1
              · intro wq hSw
                try dsimp only at hSw
                go_simp
                try (with_reducible rfl)
              try simp only [Act.put, List.setIfInBounds_toArray, List.set_cons_zero, List.set_cons_succ]
              refine wpAnyH_ready (rs := [12]) (by kernel_rfl) (by simp) ?_
              refine AllReadyH.cons (by simp only [List.getElem?_toArray, List.getElem?_cons_succ, List.getElem?_cons_zero]; rfl) (fun K hK => ?_) AllReadyH.nil
              have hne9 : 0 < m9 → ∀ ad, A9 = some ad → ad.block ≠ kv := fun _ => hne9
              obtain ⟨q0, q1, q2, q3, q4, i0', i1', i2', i3', i4'⟩ := V.five
              go_simp
              have V2 := (((((V.set 0 (.int .i64 u.la)).set 1 (.int .i64 u.n)).set 2 (.int .i64 u.k)).set 3 (.int .i64 u.g)).set 4 (.slice A9 m9 c9))
              simp only [List.setIfInBounds_toArray, List.set_cons_zero, List.set_cons_succ] at V2
              have bN := (((((hHeld.setCell (p := ⟨kv, 0, none⟩) hcv (.int .i64 u.la)).setCell (p := ⟨kv, 1, none⟩) hcv (.int .i64 u.n)).setCell (p := ⟨kv, 2, none⟩) hcv (.int .i64 u.k)).setCell (p := ⟨kv, 3, none⟩) hcv (.int .i64 u.g)).setCell (p := ⟨kv, 4, none⟩) hcv (.slice A9 m9 c9))
              have s2 := (((((s9.farz (a := ⟨kv, 0, none⟩) hne9 (.int .i64 u.la)).farz (a := ⟨kv, 1, none⟩) hne9 (.int .i64 u.n)).farz (a := ⟨kv, 2, none⟩) hne9 (.int .i64 u.k)).farz (a := ⟨kv, 3, none⟩) hne9 (.int .i64 u.g)).farz (a := ⟨kv, 4, none⟩) hne9 (.slice A9 m9 c9))
              clear q0 q1 q2 q3 q4 i0' i1' i2' i3' i4' V s9
              generalize (((((w_11_7.setCell ⟨kv, 0, none⟩ (.int .i64 u.la)).setCell ⟨kv, 1, none⟩ (.int .i64 u.n)).setCell ⟨kv, 2, none⟩ (.int .i64 u.k)).setCell ⟨kv, 3, none⟩ (.int .i64 u.g)).setCell ⟨kv, 4, none⟩ (.slice A9 m9 c9)) = w_11_7_12 at *
              have V := V2
              have s9 := s2
              clear V2 s2
              refine hK.out _ _ (bN) (fun hHeld => ?_)
              clear hK K
              try dsimp only at hHeld
              clear bN
              try simp only [Act.put, List.setIfInBounds_toArray, List.set_cons_zero, List.set_cons_succ]
              refine wpAnyH_take (i := 13) (v := ?_) (by simp only [List.getElem?_toArray, List.getElem?_cons_succ, List.getElem?_cons_zero]; rfl) (by kernel_rfl) (by kernel_rfl) (by kernel_rfl) (by intro _ _ _ h; exact nomatch h.1) (Or.inl ⟨by rfl, ?_⟩) hHeld ?_
              rotate_left 1
              · intro wq hSw
                try dsimp only at hSw
                go_simp
                try (with_reducible rfl)
              try simp only [Act.put, List.setIfInBounds_toArray, List.set_cons_zero, List.set_cons_succ]
              refine wpAnyH_done (by kernel_rfl) ?_ _
              refine ⟨rfl, kv, A9, m9, c9, ?_, hm9, V, s9, hf9, hcv, hHeld⟩
              with_reducible rfl
          rintro a w6 ⟨kv, A9, m9, c9, rfl, hm9, V9, s9, hf9, hkv9, b6⟩
          try dsimp only
          clear hjn z0 z1 z2 z3 z4 Bk Ro0 hsz Sz hzp
          have hs56 := b6.size
          replace X := X.under b6
          replace S1 := S1.below b6
          replace R := R.under b6
          replace bb := bb.trans (b6.mono bb.size)
          clear b6
          cases hj : xjoins z y
          · have hjo : xjoin z y = none := by unfold xjoin; rw [hj]; rfl
            have her0 : (70 : Int) = er := by rw [← her.out, hjo]; rfl
            subst her0
            have hl1 : (M ++ [z]) ++ [y] = imap (xs.take (k + 1)) := by rw [hM2.out, hj]; rfl
            replace hl1 := Lib.hid hl1
            clear hM2 V9 s9 hf9
            go_upto_region 13 with (fail)
            have hrd : extE.rd (fun z => w.heap.size ≤ z ∧ (Value.slice (some ⟨gm, 0, none⟩) nr cr).ownBlock ≠ some z) w6 [.int .i64 (k : Int), .int .i64 1, .int .i64 x.k, .int .i64 x.g, .slice A1 m1 c1] y := ⟨A1, c1, by rw [← hyE, ← hm1.out], by rw [← hm1.out]; exact S1, fun _ ad ea => hA1 ad ea⟩
            have a1 := (Below.refl w6.heap.size w6).alloc (Nat.le_refl _) (.cells #[.int .i64 (k : Int), .int .i64 1, .int .i64 x.k, .int .i64 x.g, .slice A1 m1 c1] 41)
            have Bs := Blk.new w6 #[.int .i64 (k : Int), .int .i64 1, .int .i64 x.k, .int .i64 x.g, .slice A1 m1 c1] 41
            obtain ⟨x0', x1', x2', x3', x4', _⟩ := X.five
            replace R := R.under a1
            replace hrd := Elt.below hrd a1
            replace bb := bb.trans (a1.mono bb.size)
            obtain ⟨A5, c5, w9, hr, R5, gr, hlies⟩ := R.app (P := Try.prog) (T := 23) (ty := 23) Try.underlying23 hiX hzX hsX hbX rfl bb.size (by omega) (by omega) hrd (one_ext _ _ _ _ _ _ _) Bs
            have hro := R.lt
            have bb6 := bb.grown gr bb.size (fun z hz => (hro z hz).1)
            rw [hl1.out] at R5
            clear hro gr hrd Bs hlies R bb a1
            go_wp2_with (at_builtin; refine wpList_run rfl (.tmp 56) (.tmp 58) 23 rfl rfl rfl hr ?_; intro _)
            go_roundg q
            case measure => omega
            case rel => exact ⟨k + 1, A5, _, c5, by omega, rfl, by first | rfl | (simp; done) | (simp; exact wrap64_small (by omega) (by omega)), by omega, R5, bb6⟩
          · have hjo : xjoin z y = some (xboth z y) := by unfold xjoin; rw [hj]; rfl
            have her0 : (0 : Int) = er := by rw [← her.out, hjo]; rfl
            subst her0
            have hub : xboth z y = u := by rw [← hu.out, hjo]; rfl
            have hl1 : M ++ [u] = imap (xs.take (k + 1)) := by rw [hM2.out, hj, ← hub]; rfl
            replace hl1 := Lib.hid hl1
            clear hM2 hub S1 X
            obtain ⟨gm', cur, eg, hBg', hnc', hcb', hsz, Bk, Ro0⟩ := R.openB hn0
            cases eg
            have hfit : p * 5 + 5 ≤ cur.size := by have e5 : extE.k = 5 := rfl; rw [e5] at hsz; omega
            obtain ⟨y0', y1', y2', y3', y4', _⟩ := V9.five
            have R8 := Ro0.set (i := p) hpm.out (y := u) (vs := [.int .i64 u.la, .int .i64 u.n, .int .i64 u.k, .int .i64 u.g, .slice A9 m9 c9]) ⟨A9, c9, by rw [hm9.out], by rw [← hm9.out]; exact s9, fun _ ad ea => ⟨by have := hf9 ad ea; omega, by have := hf9 ad ea; omega⟩⟩
            rw [hset.out u, show extE.k = 5 from rfl] at R8
            have bb8 := setL_below hBg [.int .i64 u.la, .int .i64 u.n, .int .i64 u.k, .int .i64 u.g, .slice A9 m9 c9] (p * 5) bb
            obtain ⟨cur8, hs8, Bk8⟩ := setL_blk (p * 5) [.int .i64 u.la, .int .i64 u.n, .int .i64 u.k, .int .i64 u.g, .slice A9 m9 c9] Bk
            have R9 := rq_of_ro (n := nr) (c := cr) R8 hBg Bk8 (by rw [hs8]; exact hsz) (by rw [← hset.out u, List.length_set]; exact R.len) hnc' hcb'
            rw [hl1.out] at R9
            have hwp : wrap64 ((nr : Int) - 1) = (p : Int) := by have := hp.out; unfold wrap64; omega
            have hip : IntKind.i64.wrap ((nr : Int) - 1) = (p : Int) := (IntWalk.i64_left _).trans hwp
            clear hp1
            have hfit5 : p * 5 + ([.int .i64 u.la, .int .i64 u.n, .int .i64 u.k, .int .i64 u.g, .slice A9 m9 c9] : List Value).length ≤ cur.size := hfit
            go_wp2_with (with_reducible refine wpList_storeLP rfl Bk 41 (.tmp 55) (.tmp 54) rfl (p := p * 5) (vs := [.int .i64 u.la, .int .i64 u.n, .int .i64 u.k, .int .i64 u.g, .slice A9 m9 c9]) rfl rfl hfit5 (one_ext _ _ _ _ _ _ _) (by kernel_rfl) ?_)
            clear hwp hip
            go_roundg q
            case measure => omega
            case rel => exact ⟨k + 1, _, nr, cr, by omega, rfl, by first | rfl | (simp; done) | (simp; exact wrap64_small (by omega) (by omega)), by omega, R9, bb8⟩
      · have hk2b : (x.k == 2) = false := by simpa using hk2
        rw [if_neg hk2] at hyl
        replace hk2 := Lib.hid hk2
        have hkxw : w.heap.size ≤ kx := hkb
        go_upto_region 9 with (fail)
        obtain ⟨A1, hA1e⟩ : ∃ a : Option Addr, none = a := ⟨_, rfl⟩
        obtain ⟨m1, hm1e⟩ : ∃ m : Nat, 0 = m := ⟨_, rfl⟩
        obtain ⟨c1, hc1e⟩ : ∃ m : Nat, 0 = m := ⟨_, rfl⟩
        have S1 : Sl w4 A1 m1 c1 (y.l.map v8) := by rw [← hA1e, ← hm1e, ← hc1e, hyl]; exact Sl.nil _
        have hm1 : Hid (m1 = y.l.length) := by show m1 = _; rw [← hm1e, hyl]; rfl
        have hA1 : ∀ ad, A1 = some ad → w.heap.size ≤ ad.block ∧ (Value.slice Ar nr cr).ownBlock ≠ some ad.block := fun ad ea => by rw [← hA1e] at ea; cases ea
        have hX : (#[.int .i64 (k : Int), .int .i64 1, .int .i64 x.k, .int .i64 x.g, .slice none 0 0] : Array Value) = #[.int .i64 (k : Int), .int .i64 1, .int .i64 x.k, .int .i64 x.g, .slice A1 m1 c1] := by rw [← hA1e, ← hm1e, ← hc1e]
        rw [hX] at X
        have R := R'.imp (F' := fun z => w.heap.size ≤ z) (fun z _ hF => hF.1)
        clear V v0 R' hX hyl hA1e hm1e hc1e
        obtain ⟨w5, hw5⟩ : ∃ z, z = w4 := ⟨_, rfl⟩
        subst hw5
        rcases Nat.eq_zero_or_pos k with hk0 | hk0
        · skip
          subst hk0
          have hl1 : imap (xs.take 0) ++ [y] = imap (xs.take (0 + 1)) := by rw [htk, List.take_zero, imap_nil, ← hy]; rfl
          obtain rfl : nr = 0 := by omega
          replace hl1 := Lib.hid hl1
          replace hy := Lib.hid hy
          clear htk htl hpok
          go_upto_region 13 with (fail)
          have hrd : extE.rd (fun z => w.heap.size ≤ z ∧ (Value.slice Ar 0 cr).ownBlock ≠ some z) w5 [.int .i64 ((0 : Nat) : Int), .int .i64 1, .int .i64 x.k, .int .i64 x.g, .slice A1 m1 c1] y := ⟨A1, c1, by rw [← hyE, ← hm1.out], by rw [← hm1.out]; exact S1, fun _ ad ea => hA1 ad ea⟩
          have a1 := (Below.refl w5.heap.size w5).alloc (Nat.le_refl _) (.cells #[.int .i64 ((0 : Nat) : Int), .int .i64 1, .int .i64 x.k, .int .i64 x.g, .slice A1 m1 c1] 41)
          have Bs := Blk.new w5 #[.int .i64 ((0 : Nat) : Int), .int .i64 1, .int .i64 x.k, .int .i64 x.g, .slice A1 m1 c1] 41
          obtain ⟨x0', x1', x2', x3', x4', _⟩ := X.five
          replace R := R.under a1
          replace hrd := Elt.below hrd a1
          replace bb := bb.trans (a1.mono bb.size)
          obtain ⟨A5, c5, w9, hr, R5, gr, hlies⟩ := R.app (P := Try.prog) (T := 23) (ty := 23) Try.underlying23 hiX hzX hsX hbX rfl bb.size (by omega) (by omega) hrd (one_ext _ _ _ _ _ _ _) Bs
          have hro := R.lt
          have bb6 := bb.grown gr bb.size (fun z hz => (hro z hz).1)
          rw [hl1.out] at R5
          clear hro gr hrd Bs hlies R bb a1
          go_wp2_with (at_builtin; refine wpList_run rfl (.tmp 56) (.tmp 58) 23 rfl rfl rfl hr ?_; intro _)
          go_roundg q
          case measure => omega
          case rel => exact ⟨0 + 1, A5, _, c5, by omega, rfl, by first | rfl | (simp; done), by omega, R5, bb6⟩
        · skip
          obtain ⟨M, z, hM1, hM2⟩ := imap_snoc (l := xs.take k) (by intro e; rw [e] at htl; simp at htl; omega) x
          rw [← htk, htl, hy] at hM2
          rw [hM1] at R hpok
          have hnl := R.len
          have hn0 : 0 < nr := by rw [← hnl]; simp
          obtain ⟨p, hp⟩ : ∃ p, nr - 1 = p := ⟨_, rfl⟩
          have hp1 : (nr : Int) - 1 = (p : Int) := by omega
          have hpl : p < nr := by omega
          have hzp : (M ++ [z])[p]? = some z := by rw [List.length_append, List.length_singleton] at hnl; rw [List.getElem?_append_right (by omega), show p - M.length = 0 by omega]; rfl
          have hset : ∀ u : Xp, (M ++ [z]).set p u = M ++ [u] := by intro u; rw [List.length_append, List.length_singleton] at hnl; rw [List.set_append_right _ _ (by omega), show p - M.length = 0 by omega]; rfl
          have hpm : p < (M ++ [z]).length := by rw [hnl]; exact hpl
          have hzo := hpok z (by simp)
          obtain ⟨gm, cur, rfl, hBg, hnc, hcb2, hsz, Bk, Ro0⟩ := R.openB hn0
          obtain ⟨Az, cz, z0, z1, z2, z3, z4, Sz, _⟩ := Ro.ext_at Ro0 hzp
          obtain ⟨mz, hmz⟩ : ∃ m, z.l.length = m := ⟨_, rfl⟩
          rw [hmz] at z4 Sz
          have hgl := Bk.lt
          have hgx : gm < kx := hkR gm rfl
          obtain ⟨er, her⟩ : ∃ v, errOf (xjoin z y) 70 = v := ⟨_, rfl⟩
          obtain ⟨u, hu⟩ : ∃ v, (xjoin z y).getD x0 = v := ⟨_, rfl⟩
          have hjn := fun (W : World) (s1 : Sl W Az mz cz (z.l.map v8)) (s2 : Sl W A1 m1 c1 (y.l.map v8)) => EPost.eq (fJoin_any z.la z.n z.k z.g Az mz cz z.l (k : Int) 1 x.k x.g A1 m1 c1 y.l W s1 s2) rfl rfl
          simp only [hyE] at hjn
          rw [show (⟨z.la, z.n, z.k, z.g, z.l⟩ : Xp) = z from rfl] at hjn
          simp only [her, hu] at hjn
          have hn64b : nr ≤ 64 := by omega
          replace hmz := Lib.hid hmz
          replace hM1 := Lib.hid hM1
          replace hM2 := Lib.hid hM2
          replace hp := Lib.hid hp
          replace hy := Lib.hid hy
          replace her := Lib.hid her
          replace hu := Lib.hid hu
          replace hset := Lib.hid hset
          replace hpm := Lib.hid hpm
          replace hzp := Lib.hid hzp
          clear hpok htk htl hnl hzo
          go_wp2_with fail
          refine region_join (α := Nat → Option Addr → Nat → Nat → Act) (R := fun T a w' => ∃ (kv : Nat) (A9 : Option Addr) (m9 c9 : Nat), a = T kv A9 m9 c9 ∧ Hid (m9 = u.l.length) ∧ Blk w' kv #[.int .i64 u.la, .int .i64 u.n, .int .i64 u.k, .int .i64 u.g, .slice A9 m9 c9] 41 ∧ Sl w' A9 m9 c9 (u.l.map v8) ∧ (∀ ad, A9 = some ad → w5.heap.size ≤ ad.block) ∧ w5.heap.size ≤ kv ∧ Below w5.heap.size w5 w') ?T10b ?body10b ?rest10b
          case body10b =>
            refine wp_region_held_drew (S := fun w' => Below w5.heap.size w5 w') (by kernel_rfl) (Below.refl _ _).drew (fun hHeld => ?_)
            try dsimp only at hHeld
            generalize w5.drew = wd at *
            try simp only [Act.put, List.setIfInBounds_toArray, List.set_cons_zero, List.set_cons_succ]
            refine wpAnyH_take (i := 0) (v := ?_) (by simp only [List.getElem?_toArray, List.getElem?_cons_zero]; rfl) (by kernel_rfl) (by kernel_rfl) (by kernel_rfl) (by intro _ _ _ h; exact nomatch h.1) (Or.inl ⟨by rfl, ?_⟩) hHeld ?_
            rotate_left 1
            · intro wq hSw
              try dsimp only at hSw
              go_simp
              try (with_reducible rfl)
            try simp only [Act.put, List.setIfInBounds_toArray, List.set_cons_zero, List.set_cons_succ]
            refine wpAnyH_take (i := 1) (v := ?_) (by simp only [List.getElem?_toArray, List.getElem?_cons_succ, List.getElem?_cons_zero]; rfl) (by kernel_rfl) (by kernel_rfl) (by kernel_rfl) (by intro _ _ _ h; exact nomatch h.1) (Or.inl ⟨by rfl, ?_⟩) hHeld ?_
            rotate_left 1
            · intro wq hSw
              try dsimp only at hSw
              go_simp
              try (with_reducible rfl)
            try simp only [Act.put, List.setIfInBounds_toArray, List.set_cons_zero, List.set_cons_succ]
            refine wpAnyH_take (i := 2) (v := ?_) (by simp only [List.getElem?_toArray, List.getElem?_cons_succ, List.getElem?_cons_zero]; rfl) (by kernel_rfl) (by kernel_rfl) (by kernel_rfl) (by intro _ _ _ h; exact nomatch h.1) (Or.inl ⟨by rfl, ?_⟩) hHeld ?_
            rotate_left 1
            · intro wq hSw
              try dsimp only at hSw
              go_simp
              try (with_reducible rfl)
            try simp only [Act.put, List.setIfInBounds_toArray, List.set_cons_zero, List.set_cons_succ]
            refine wpAnyH_take (i := 3) (v := (.int .i64 (p : Int))) (by simp only [List.getElem?_toArray, List.getElem?_cons_succ, List.getElem?_cons_zero]; rfl) (by kernel_rfl) (by kernel_rfl) (by kernel_rfl) (by intro _ _ _ h; exact nomatch h.1) (Or.inl ⟨by rfl, ?_⟩) hHeld ?_
            · intro wq hSw
              try dsimp only at hSw
              go_simp
              rw [IntWalk.i64_left]
              unfold wrap64
              have := hp.out
              omega
            try simp only [Act.put, List.setIfInBounds_toArray, List.set_cons_zero, List.set_cons_succ]
            refine wpAnyH_take (i := 4) (v := ?_) (by simp only [List.getElem?_toArray, List.getElem?_cons_succ, List.getElem?_cons_zero]; rfl) (by kernel_rfl) (by kernel_rfl) (by kernel_rfl) (by intro _ _ _ h; exact nomatch h.1) (Or.inl ⟨by rfl, ?_⟩) hHeld ?_
            rotate_left 1
            · intro wq hSw
              try dsimp only at hSw
              go_simp
              try (with_reducible rfl)
            try simp only [Act.put, List.setIfInBounds_toArray, List.set_cons_zero, List.set_cons_succ]
            refine wpAnyH_take (i := 5) (v := ?_) (by simp only [List.getElem?_toArray, List.getElem?_cons_succ, List.getElem?_cons_zero]; rfl) (by kernel_rfl) (by kernel_rfl) (by kernel_rfl) (by intro _ _ _ h; exact nomatch h.1) (Or.inl ⟨by rfl, ?_⟩) hHeld ?_
            rotate_left 1
            · intro wq hSw
              try dsimp only at hSw
              have y0 := (hSw.cell (p := ⟨gm, p * 5, none⟩) hgl).trans z0
              have y1 := (hSw.cell (p := ⟨gm, p * 5 + 1, none⟩) hgl).trans z1
              have y2 := (hSw.cell (p := ⟨gm, p * 5 + 2, none⟩) hgl).trans z2
              have y3 := (hSw.cell (p := ⟨gm, p * 5 + 3, none⟩) hgl).trans z3
              have y4 := (hSw.cell (p := ⟨gm, p * 5 + 4, none⟩) hgl).trans z4
              go_simp
              try (with_reducible rfl)
            try simp only [Act.put, List.setIfInBounds_toArray, List.set_cons_zero, List.set_cons_succ]
            refine wpAnyH_take (i := 6) (v := ?_) (by simp only [List.getElem?_toArray, List.getElem?_cons_succ, List.getElem?_cons_zero]; rfl) (by kernel_rfl) (by kernel_rfl) (by kernel_rfl) (by intro _ _ _ h; exact nomatch h.1) (Or.inl ⟨by rfl, ?_⟩) hHeld ?_
            rotate_left 1
            · intro wq hSw
              try dsimp only at hSw
              obtain ⟨q0, q1, q2', q3, q4, _⟩ := (X.under hSw).five
              go_simp
              try (with_reducible rfl)
            try simp only [Act.put, List.setIfInBounds_toArray, List.set_cons_zero, List.set_cons_succ]
            refine wpAnyH_ready (rs := [7, 11]) (by kernel_rfl) (by simp) ?_
            refine AllReadyH.cons (by simp only [List.getElem?_toArray, List.getElem?_cons_succ, List.getElem?_cons_zero]; rfl) (fun K hK => ?_) (AllReadyH.cons (by simp only [List.getElem?_toArray, List.getElem?_cons_succ, List.getElem?_cons_zero]; rfl) (fun K hK => ?_) AllReadyH.nil)
            · skip
              have hC := hjn wd (Sz.below hHeld) (S1.below hHeld)
              go_simp
              refine hC.mono ?_
              clear hC
              rintro e w_7 ⟨A9, m9, c9, hm9, rfl, N9, b9⟩
              have bN := hHeld.trans (b9.mono hHeld.size)
              have hf9 : ∀ ad, A9 = some ad → w5.heap.size ≤ ad.block := fun ad e => by have h1 := N9.fr ad e; have h2 := hHeld.size; omega
              have s9 := N9.sl
              clear N9 b9
              go_wp2_with fail
              refine hK.out _ _ (bN) (fun hHeld => ?_)
              clear hK K
              try dsimp only at hHeld
              clear bN
              try simp only [Act.put, List.setIfInBounds_toArray, List.set_cons_zero, List.set_cons_succ]
              refine wpAnyH_take (i := 8) (v := ?_) (by simp only [List.getElem?_toArray, List.getElem?_cons_succ, List.getElem?_cons_zero]; rfl) (by kernel_rfl) (by kernel_rfl) (by kernel_rfl) (by intro _ _ _ h; exact nomatch h.1) (Or.inl ⟨by rfl, ?_⟩) hHeld ?_
              rotate_left 1
              · intro wq hSw
                try dsimp only at hSw
                go_simp
                try (with_reducible rfl)
              try simp only [Act.put, List.setIfInBounds_toArray, List.set_cons_zero, List.set_cons_succ]
              refine wpAnyH_take (i := 9) (v := ?_) (by simp only [List.getElem?_toArray, List.getElem?_cons_succ, List.getElem?_cons_zero]; rfl) (by kernel_rfl) (by kernel_rfl) (by kernel_rfl) (by intro _ _ _ h; exact nomatch h.1) (Or.inl ⟨by rfl, ?_⟩) hHeld ?_
              rotate_left 1
              · intro wq hSw
                try dsimp only at hSw
                go_simp
                try (with_reducible rfl)
              try simp only [Act.put, List.setIfInBounds_toArray, List.set_cons_zero, List.set_cons_succ]
              refine wpAnyH_take (i := 10) (v := ?_) (by simp only [List.getElem?_toArray, List.getElem?_cons_succ, List.getElem?_cons_zero]; rfl) (by kernel_rfl) (by kernel_rfl) (by kernel_rfl) (by intro _ _ _ h; exact nomatch h.1) (Or.inl ⟨by rfl, ?_⟩) hHeld ?_
              rotate_left 1
              · intro wq hSw
                try dsimp only at hSw
                go_simp
                try (with_reducible rfl)
              try simp only [Act.put, List.setIfInBounds_toArray, List.set_cons_zero, List.set_cons_succ]
              refine wpAnyH_ready (rs := [11]) (by kernel_rfl) (by simp) ?_
              refine AllReadyH.cons (by simp only [List.getElem?_toArray, List.getElem?_cons_succ, List.getElem?_cons_zero]; rfl) (fun K hK => ?_) AllReadyH.nil
              obtain ⟨kv, hkv⟩ : ∃ k, w_7.heap.size = k := ⟨_, rfl⟩
              go_simp
              try simp only [hkv]
              have V := Blk.new w_7 #[.int .i64 0, .int .i64 0, .int .i64 0, .int .i64 0, .slice none 0 0] 41
              rw [hkv] at V
              have hcv : w5.heap.size ≤ kv := by rw [← hkv]; exact hHeld.size
              have bN := hHeld.alloc hHeld.size (.cells #[.int .i64 0, .int .i64 0, .int .i64 0, .int .i64 0, .slice none 0 0] 41)
              have hne9 : 0 < m9 → ∀ ad, A9 = some ad → ad.block ≠ kv := fun h0 ad e => by obtain ⟨ad', e', hb, _⟩ := s9.cells h0; cases e.symm.trans e'; omega
              replace s9 := s9.alloc (.cells #[.int .i64 0, .int .i64 0, .int .i64 0, .int .i64 0, .slice none 0 0] 41)
              clear hkv
              generalize w_7.alloc (.cells #[.int .i64 0, .int .i64 0, .int .i64 0, .int .i64 0, .slice none 0 0] 41) = w_7_11 at *
              refine hK.out _ _ (bN) (fun hHeld => ?_)
              clear hK K
              try dsimp only at hHeld
              clear bN
              try simp only [Act.put, List.setIfInBounds_toArray, List.set_cons_zero, List.set_cons_succ]
              refine wpAnyH_ready (rs := [12]) (by kernel_rfl) (by simp) ?_
              refine AllReadyH.cons (by simp only [List.getElem?_toArray, List.getElem?_cons_succ, List.getElem?_cons_zero]; rfl) (fun K hK => ?_) AllReadyH.nil
              skip
              obtain ⟨q0, q1, q2, q3, q4, i0', i1', i2', i3', i4'⟩ := V.five
              go_simp
              have V2 := (((((V.set 0 (.int .i64 u.la)).set 1 (.int .i64 u.n)).set 2 (.int .i64 u.k)).set 3 (.int .i64 u.g)).set 4 (.slice A9 m9 c9))
              simp only [List.setIfInBounds_toArray, List.set_cons_zero, List.set_cons_succ] at V2
              have bN := (((((hHeld.setCell (p := ⟨kv, 0, none⟩) hcv (.int .i64 u.la)).setCell (p := ⟨kv, 1, none⟩) hcv (.int .i64 u.n)).setCell (p := ⟨kv, 2, none⟩) hcv (.int .i64 u.k)).setCell (p := ⟨kv, 3, none⟩) hcv (.int .i64 u.g)).setCell (p := ⟨kv, 4, none⟩) hcv (.slice A9 m9 c9))
              have s2 := (((((s9.farz (a := ⟨kv, 0, none⟩) hne9 (.int .i64 u.la)).farz (a := ⟨kv, 1, none⟩) hne9 (.int .i64 u.n)).farz (a := ⟨kv, 2, none⟩) hne9 (.int .i64 u.k)).farz (a := ⟨kv, 3, none⟩) hne9 (.int .i64 u.g)).farz (a := ⟨kv, 4, none⟩) hne9 (.slice A9 m9 c9))
              clear q0 q1 q2 q3 q4 i0' i1' i2' i3' i4' V s9
              generalize (((((w_7_11.setCell ⟨kv, 0, none⟩ (.int .i64 u.la)).setCell ⟨kv, 1, none⟩ (.int .i64 u.n)).setCell ⟨kv, 2, none⟩ (.int .i64 u.k)).setCell ⟨kv, 3, none⟩ (.int .i64 u.g)).setCell ⟨kv, 4, none⟩ (.slice A9 m9 c9)) = w_7_11_12 at *
              have V := V2
              have s9 := s2
              clear V2 s2
              refine hK.out _ _ (bN) (fun hHeld => ?_)
              clear hK K
              try dsimp only at hHeld
              clear bN
              try simp only [Act.put, List.setIfInBounds_toArray, List.set_cons_zero, List.set_cons_succ]
              refine wpAnyH_take (i := 13) (v := ?_) (by simp only [List.getElem?_toArray, List.getElem?_cons_succ, List.getElem?_cons_zero]; rfl) (by kernel_rfl) (by kernel_rfl) (by kernel_rfl) (by intro _ _ _ h; exact nomatch h.1) (Or.inl ⟨by rfl, ?_⟩) hHeld ?_
              rotate_left 1
              · intro wq hSw
                try dsimp only at hSw
                go_simp
                try (with_reducible rfl)
              try simp only [Act.put, List.setIfInBounds_toArray, List.set_cons_zero, List.set_cons_succ]
              refine wpAnyH_done (by kernel_rfl) ?_ _
              refine ⟨rfl, kv, A9, m9, c9, ?_, hm9, V, s9, hf9, hcv, hHeld⟩
              with_reducible rfl
            · skip
              obtain ⟨kv, hkv⟩ : ∃ k, wd.heap.size = k := ⟨_, rfl⟩
              go_simp
              try simp only [hkv]
              have V := Blk.new wd #[.int .i64 0, .int .i64 0, .int .i64 0, .int .i64 0, .slice none 0 0] 41
              rw [hkv] at V
              have hcv : w5.heap.size ≤ kv := by rw [← hkv]; exact hHeld.size
              have bN := hHeld.alloc hHeld.size (.cells #[.int .i64 0, .int .i64 0, .int .i64 0, .int .i64 0, .slice none 0 0] 41)
              clear hkv
              generalize wd.alloc (.cells #[.int .i64 0, .int .i64 0, .int .i64 0, .int .i64 0, .slice none 0 0] 41) = w_11 at *
              refine hK.out _ _ (bN) (fun hHeld => ?_)
              clear hK K
              try dsimp only at hHeld
              clear bN
              try simp only [Act.put, List.setIfInBounds_toArray, List.set_cons_zero, List.set_cons_succ]
              refine wpAnyH_ready (rs := [7]) (by kernel_rfl) (by simp) ?_
              refine AllReadyH.cons (by simp only [List.getElem?_toArray, List.getElem?_cons_succ, List.getElem?_cons_zero]; rfl) (fun K hK => ?_) AllReadyH.nil
              have hC := hjn w_11 (Sz.below hHeld) (S1.below hHeld)
              go_simp
              refine hC.mono ?_
              clear hC
              rintro e w_11_7 ⟨A9, m9, c9, hm9, rfl, N9, b9⟩
              have bN := hHeld.trans (b9.mono hHeld.size)
              have hf9 : ∀ ad, A9 = some ad → w5.heap.size ≤ ad.block := fun ad e => by have h1 := N9.fr ad e; have h2 := hHeld.size; omega
              have hvl := V.lt
              have hne9 : ∀ ad, A9 = some ad → ad.block ≠ kv := fun ad e => by have := N9.fr ad e; omega
              replace V := V.under b9
              have s9 := N9.sl
              clear N9 b9
              go_wp2_with fail
              refine hK.out _ _ (bN) (fun hHeld => ?_)
              clear hK K
              try dsimp only at hHeld
              clear bN
              try simp only [Act.put, List.setIfInBounds_toArray, List.set_cons_zero, List.set_cons_succ]
              refine wpAnyH_take (i := 8) (v := ?_) (by simp only [List.getElem?_toArray, List.getElem?_cons_succ, List.getElem?_cons_zero]; rfl) (by kernel_rfl) (by kernel_rfl) (by kernel_rfl) (by intro _ _ _ h; exact nomatch h.1) (Or.inl ⟨by rfl, ?_⟩) hHeld ?_
              rotate_left 1
              · intro wq hSw
                try dsimp only at hSw
                go_simp
                try (with_reducible rfl)
              try simp only [Act.put, List.setIfInBounds_toArray, List.set_cons_zero, List.set_cons_succ]
              refine wpAnyH_take (i := 9) (v := ?_) (by simp only [List.getElem?_toArray, List.getElem?_cons_succ, List.getElem?_cons_zero]; rfl) (by kernel_rfl) (by kernel_rfl) (by kernel_rfl) (by intro _ _ _ h; exact nomatch h.1) (Or.inl ⟨by rfl, ?_⟩) hHeld ?_
              rotate_left 1
              · intro wq hSw
                try dsimp only at hSw
                go_simp
                try (with_reducible rfl)
              try simp only [Act.put, List.setIfInBounds_toArray, List.set_cons_zero, List.set_cons_succ]
              refine wpAnyH_take (i := 10) (v := ?_) (by simp only [List.getElem?_toArray, List.getElem?_cons_succ, List.getElem?_cons_zero]; rfl) (by kernel_rfl) (by kernel_rfl) (by kernel_rfl) (by intro _ _ _ h; exact nomatch h.1) (Or.inl ⟨by rfl, ?_⟩) hHeld ?_
              rotate_left 1
              · intro wq hSw
                try dsimp only at hSw
                go_simp
                try (with_reducible rfl)
              try simp only [Act.put, List.setIfInBounds_toArray, List.set_cons_zero, List.set_cons_succ]
              refine wpAnyH_ready (rs := [12]) (by kernel_rfl) (by simp) ?_
              refine AllReadyH.cons (by simp only [List.getElem?_toArray, List.getElem?_cons_succ, List.getElem?_cons_zero]; rfl) (fun K hK => ?_) AllReadyH.nil
              have hne9 : 0 < m9 → ∀ ad, A9 = some ad → ad.block ≠ kv := fun _ => hne9
              obtain ⟨q0, q1, q2, q3, q4, i0', i1', i2', i3', i4'⟩ := V.five
              go_simp
              have V2 := (((((V.set 0 (.int .i64 u.la)).set 1 (.int .i64 u.n)).set 2 (.int .i64 u.k)).set 3 (.int .i64 u.g)).set 4 (.slice A9 m9 c9))
              simp only [List.setIfInBounds_toArray, List.set_cons_zero, List.set_cons_succ] at V2
              have bN := (((((hHeld.setCell (p := ⟨kv, 0, none⟩) hcv (.int .i64 u.la)).setCell (p := ⟨kv, 1, none⟩) hcv (.int .i64 u.n)).setCell (p := ⟨kv, 2, none⟩) hcv (.int .i64 u.k)).setCell (p := ⟨kv, 3, none⟩) hcv (.int .i64 u.g)).setCell (p := ⟨kv, 4, none⟩) hcv (.slice A9 m9 c9))
              have s2 := (((((s9.farz (a := ⟨kv, 0, none⟩) hne9 (.int .i64 u.la)).farz (a := ⟨kv, 1, none⟩) hne9 (.int .i64 u.n)).farz (a := ⟨kv, 2, none⟩) hne9 (.int .i64 u.k)).farz (a := ⟨kv, 3, none⟩) hne9 (.int .i64 u.g)).farz (a := ⟨kv, 4, none⟩) hne9 (.slice A9 m9 c9))
              clear q0 q1 q2 q3 q4 i0' i1' i2' i3' i4' V s9
              generalize (((((w_11_7.setCell ⟨kv, 0, none⟩ (.int .i64 u.la)).setCell ⟨kv, 1, none⟩ (.int .i64 u.n)).setCell ⟨kv, 2, none⟩ (.int .i64 u.k)).setCell ⟨kv, 3, none⟩ (.int .i64 u.g)).setCell ⟨kv, 4, none⟩ (.slice A9 m9 c9)) = w_11_7_12 at *
              have V := V2
              have s9 := s2
              clear V2 s2
              refine hK.out _ _ (bN) (fun hHeld => ?_)
              clear hK K
              try dsimp only at hHeld
              clear bN
              try simp only [Act.put, List.setIfInBounds_toArray, List.set_cons_zero, List.set_cons_succ]
              refine wpAnyH_take (i := 13) (v := ?_) (by simp only [List.getElem?_toArray, List.getElem?_cons_succ, List.getElem?_cons_zero]; rfl) (by kernel_rfl) (by kernel_rfl) (by kernel_rfl) (by intro _ _ _ h; exact nomatch h.1) (Or.inl ⟨by rfl, ?_⟩) hHeld ?_
              rotate_left 1
              · intro wq hSw
                try dsimp only at hSw
                go_simp
                try (with_reducible rfl)
              try simp only [Act.put, List.setIfInBounds_toArray, List.set_cons_zero, List.set_cons_succ]
              refine wpAnyH_done (by kernel_rfl) ?_ _
              refine ⟨rfl, kv, A9, m9, c9, ?_, hm9, V, s9, hf9, hcv, hHeld⟩
              with_reducible rfl
          rintro a w6 ⟨kv, A9, m9, c9, rfl, hm9, V9, s9, hf9, hkv9, b6⟩
          try dsimp only
          clear hjn z0 z1 z2 z3 z4 Bk Ro0 hsz Sz hzp
          have hs56 := b6.size
          replace X := X.under b6
          replace S1 := S1.below b6
          replace R := R.under b6
          replace bb := bb.trans (b6.mono bb.size)
          clear b6
          cases hj : xjoins z y
          · have hjo : xjoin z y = none := by unfold xjoin; rw [hj]; rfl
            have her0 : (70 : Int) = er := by rw [← her.out, hjo]; rfl
            subst her0
            have hl1 : (M ++ [z]) ++ [y] = imap (xs.take (k + 1)) := by rw [hM2.out, hj]; rfl
            replace hl1 := Lib.hid hl1
            clear hM2 V9 s9 hf9
            go_upto_region 13 with (fail)
            have hrd : extE.rd (fun z => w.heap.size ≤ z ∧ (Value.slice (some ⟨gm, 0, none⟩) nr cr).ownBlock ≠ some z) w6 [.int .i64 (k : Int), .int .i64 1, .int .i64 x.k, .int .i64 x.g, .slice A1 m1 c1] y := ⟨A1, c1, by rw [← hyE, ← hm1.out], by rw [← hm1.out]; exact S1, fun _ ad ea => hA1 ad ea⟩
            have a1 := (Below.refl w6.heap.size w6).alloc (Nat.le_refl _) (.cells #[.int .i64 (k : Int), .int .i64 1, .int .i64 x.k, .int .i64 x.g, .slice A1 m1 c1] 41)
            have Bs := Blk.new w6 #[.int .i64 (k : Int), .int .i64 1, .int .i64 x.k, .int .i64 x.g, .slice A1 m1 c1] 41
            obtain ⟨x0', x1', x2', x3', x4', _⟩ := X.five
            replace R := R.under a1
            replace hrd := Elt.below hrd a1
            replace bb := bb.trans (a1.mono bb.size)
            obtain ⟨A5, c5, w9, hr, R5, gr, hlies⟩ := R.app (P := Try.prog) (T := 23) (ty := 23) Try.underlying23 hiX hzX hsX hbX rfl bb.size (by omega) (by omega) hrd (one_ext _ _ _ _ _ _ _) Bs
            have hro := R.lt
            have bb6 := bb.grown gr bb.size (fun z hz => (hro z hz).1)
            rw [hl1.out] at R5
            clear hro gr hrd Bs hlies R bb a1
            go_wp2_with (at_builtin; refine wpList_run rfl (.tmp 56) (.tmp 58) 23 rfl rfl rfl hr ?_; intro _)
            go_roundg q
            case measure => omega
            case rel => exact ⟨k + 1, A5, _, c5, by omega, rfl, by first | rfl | (simp; done) | (simp; exact wrap64_small (by omega) (by omega)), by omega, R5, bb6⟩
          · have hjo : xjoin z y = some (xboth z y) := by unfold xjoin; rw [hj]; rfl
            have her0 : (0 : Int) = er := by rw [← her.out, hjo]; rfl
            subst her0
            have hub : xboth z y = u := by rw [← hu.out, hjo]; rfl
            have hl1 : M ++ [u] = imap (xs.take (k + 1)) := by rw [hM2.out, hj, ← hub]; rfl
            replace hl1 := Lib.hid hl1
            clear hM2 hub S1 X
            obtain ⟨gm', cur, eg, hBg', hnc', hcb', hsz, Bk, Ro0⟩ := R.openB hn0
            cases eg
            have hfit : p * 5 + 5 ≤ cur.size := by have e5 : extE.k = 5 := rfl; rw [e5] at hsz; omega
            obtain ⟨y0', y1', y2', y3', y4', _⟩ := V9.five
            have R8 := Ro0.set (i := p) hpm.out (y := u) (vs := [.int .i64 u.la, .int .i64 u.n, .int .i64 u.k, .int .i64 u.g, .slice A9 m9 c9]) ⟨A9, c9, by rw [hm9.out], by rw [← hm9.out]; exact s9, fun _ ad ea => ⟨by have := hf9 ad ea; omega, by have := hf9 ad ea; omega⟩⟩
            rw [hset.out u, show extE.k = 5 from rfl] at R8
            have bb8 := setL_below hBg [.int .i64 u.la, .int .i64 u.n, .int .i64 u.k, .int .i64 u.g, .slice A9 m9 c9] (p * 5) bb
            obtain ⟨cur8, hs8, Bk8⟩ := setL_blk (p * 5) [.int .i64 u.la, .int .i64 u.n, .int .i64 u.k, .int .i64 u.g, .slice A9 m9 c9] Bk
            have R9 := rq_of_ro (n := nr) (c := cr) R8 hBg Bk8 (by rw [hs8]; exact hsz) (by rw [← hset.out u, List.length_set]; exact R.len) hnc' hcb'
            rw [hl1.out] at R9
            have hwp : wrap64 ((nr : Int) - 1) = (p : Int) := by have := hp.out; unfold wrap64; omega
            have hip : IntKind.i64.wrap ((nr : Int) - 1) = (p : Int) := (IntWalk.i64_left _).trans hwp
            clear hp1
            have hfit5 : p * 5 + ([.int .i64 u.la, .int .i64 u.n, .int .i64 u.k, .int .i64 u.g, .slice A9 m9 c9] : List Value).length ≤ cur.size := hfit
            go_wp2_with (with_reducible refine wpList_storeLP rfl Bk 41 (.tmp 55) (.tmp 54) rfl (p := p * 5) (vs := [.int .i64 u.la, .int .i64 u.n, .int .i64 u.k, .int .i64 u.g, .slice A9 m9 c9]) rfl rfl hfit5 (one_ext _ _ _ _ _ _ _) (by kernel_rfl) ?_)
            clear hwp hip
            go_roundg q
            case measure => omega
            case rel => exact ⟨k + 1, _, nr, cr, by omega, rfl, by first | rfl | (simp; done) | (simp; exact wrap64_small (by omega) (by omega)), by omega, R9, bb8⟩
    · obtain rfl : k = n := by omega
      rw [List.take_of_length_le (Nat.le_of_eq HN.out)] at R
      have hl := R.len
      have RS := R.toRs (fun z _ hz => hz)
      replace hl := Lib.hid hl
      go_wp2
      go_ret
      exact ⟨Ar, nr, cr, hl, rfl, RS, bb⟩
end Go.Proofs.Ytagageidiebogaa

/-
  Contracts of the document's Of and Map of images (written by gen_imref8.py).
-/
namespace Go.Proofs.Ytagageidiebogaa
open Go.RowKit Go.Wag
set_option linter.unusedVariables false
set_option maxRecDepth 20000
theorem fOf9_any {F : Nat → Prop} (b : Int) (xs : List Xp) (A : Option Addr) (n c : Nat) (w : World) (h : Rs extE F w A n c xs) (hn : n ≤ 1000000) :
    Calls Try.prog 7 #[.int .i64 b, .slice A n c] w (CErr w (if mapB b xs = true then iof xs else []) (if mapB b xs = true then 0 else 80)) := by
  have hC := rmCheck_any b xs A n c w h (by omega)
  cases hm : mapB b xs
  · rw [hm] at hC
    rw [if_neg (by simp), if_neg (by simp)]
    go_enter Try.func7, Try.ntmps7
    go_wp2_with fail
    refine hC.mono ?_
    rintro e w2 ⟨rfl, b2⟩
    go_wp2
    go_ret2
    exact CErr.nil _ b2
  · rw [hm] at hC
    rw [if_pos rfl, if_pos rfl]
    go_enter Try.func7, Try.ntmps7
    go_wp2_with fail
    refine hC.mono ?_
    rintro e w2 ⟨rfl, b2⟩
    have hD := fCells_any b xs A n c w2 (h.below b2) hm
    replace hm := Lib.hid hm
    go_wp2_with fail
    refine hD.mono ?_
    rintro e w3 ⟨A3, n3, c3, h3, rfl, R3, b3⟩
    go_wp2
    go_ret2
    exact ⟨A3, n3, c3, h3, rfl, R3.imp (fun z _ hz => Nat.le_trans b2.size hz), b2.trans (b3.mono b2.size)⟩
theorem fMap9_any {F : Nat → Prop} (xs : List Cp) (A : Option Addr) (n c : Nat) (w : World) (h : Rs cpE F w A n c xs) :
    Calls Try.prog 9 #[.slice A n c] w (LErr w (if ichk xs = true then imap xs else []) (if ichk xs = true then 0 else 90)) := by
  have hC := fCk9_any xs A n c w h
  cases hm : ichk xs
  · rw [hm] at hC
    rw [if_neg (by simp), if_neg (by simp)]
    go_enter Try.func9, Try.ntmps9
    go_wp2_with fail
    refine hC.mono ?_
    rintro e w2 ⟨rfl, b2⟩
    go_wp2
    go_ret2
    exact LErr.nil _ b2
  · rw [hm] at hC
    rw [if_pos rfl, if_pos rfl]
    go_enter Try.func9, Try.ntmps9
    go_wp2_with fail
    refine hC.mono ?_
    rintro e w2 ⟨rfl, b2⟩
    have hD := fOf_any xs A n c w2 (h.below b2) hm
    replace hm := Lib.hid hm
    go_wp2_with fail
    refine hD.mono ?_
    rintro e w3 ⟨A3, n3, c3, h3, rfl, R3, b3⟩
    go_wp2
    go_ret2
    exact ⟨A3, n3, c3, h3, rfl, R3.imp (fun z _ hz => Nat.le_trans b2.size hz), b2.trans (b3.mono b2.size)⟩
end Go.Proofs.Ytagageidiebogaa
