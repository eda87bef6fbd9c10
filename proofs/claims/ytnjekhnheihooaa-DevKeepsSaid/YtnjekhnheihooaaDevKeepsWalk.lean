/-
  DevKeeps: the walk (written by gen_devkeeps.py).
-/
import Derived.Test.YtnjekhnheihooaaDevAwake
import Derived.Test.YtnjekhnheihooaaDevArgs
namespace Go.Proofs.Ytnjekhnheihooaa
open Go.RowKit Go.Wag
set_option linter.unusedVariables false

theorem i3k : (Try.prog.info? 3).map (fun i => (i.zero, i.size, i.bytes)) = some (some (.int .i64 0), 1, 8) := by kernel_rfl
theorem fits_rep (k : Nat) : fits (List.replicate k 1048576) := fun x hx => by
  rw [List.eq_of_mem_replicate hx]
  decide
theorem str_ne4 {l' l : List UInt8} (h : ¬ l' = l) : ((⟨l'.toArray⟩ : ByteArray) == ⟨l.toArray⟩) = false := by
  cases hb : ((⟨l'.toArray⟩ : ByteArray) == ⟨l.toArray⟩)
  · rfl
  · have := (MapKept.bytes_beq _ _).1 hb
    simp only [ByteArray.mk.injEq] at this
    exact absurd (by simpa using this) h
theorem dev_all {size : Int} {zs : List Zp} (h : devF size zs = true) {i : Nat} {z : Zp} (hz : zs[i]? = some z) : chkF z.st z.rs z.l.length z.la size = true := by
  simp only [devF, Bool.and_eq_true, List.all_eq_true] at h
  exact h.2 z (List.mem_of_getElem? hz)
theorem cr_at (size : Int) (ks : List Int) (zs : List Zp) {i : Nat} {z : Zp} (hd : devF size zs = true) (hz : zs[i]? = some z) : (cdZs size ks zs)[i]? = some (crZ size (keepAt ks i) z) := by
  rw [cdZs, hd, if_pos rfl, crZs, List.getElem?_mapIdx, hz]
  rfl
theorem cr_keep {size keep : Int} {z : Zp} (hc : chkF z.st z.rs z.l.length z.la size = true) (hk : (z.l.length : Int) ≤ max keep z.la) : (crZ size keep z).l = z.l := by
  have hk2 : crK z.l.length z.la keep = z.l.length := by
    unfold crK
    omega
  simp only [crZ, crDa, hc, if_true, hk2, Int.toNat_natCast]
  exact List.take_length
theorem keep_all (size : Int) (zs : List Zp) (n : Nat) (hn : zs.length ≤ n) (hd : devF size zs = true) (i : Nat) (z : Zp) (hz : zs[i]? = some z) : ∃ z', (cdZs size (List.replicate n 1048576) zs)[i]? = some z' ∧ z'.l = z.l := by
  refine ⟨_, cr_at size _ zs hd hz, cr_keep (dev_all hd hz) ?_⟩
  have hi : i < n := by have := (List.getElem?_eq_some_iff.1 hz).1; omega
  have hc := chk_all (dev_all hd hz)
  have : keepAt (List.replicate n 1048576) i = 1048576 := by simp [keepAt, List.getD_eq_getElem?_getD, hi]
  rw [this]
  omega
theorem dev_fs {size : Int} {zs : List Zp} (h : devF size zs = true) : devF size (zs.map fsZ) = true := by
  simp only [devF, Bool.and_eq_true, List.all_eq_true, List.length_map] at h ⊢
  refine ⟨h.1, fun z hz => ?_⟩
  obtain ⟨z0, h0, rfl⟩ := List.mem_map.1 hz
  have := chk_all (h.2 z0 h0)
  show chkF z0.st z0.rs z0.l.length z0.l.length size = true
  rw [chkF]
  exact decide_eq_true (by omega)
theorem sm_fs {zs : List Zp} (h : Sm zs) : Sm (zs.map fsZ) := ⟨by rw [List.length_map]; exact h.1, fun z hz => by
  obtain ⟨z0, h0, rfl⟩ := List.mem_map.1 hz
  exact h.2 z0 h0⟩
theorem ru_zs5 (size : Int) (dw : Bool) (zs : List Zp) (hd : devF size zs = true) : ruZs size (-1) dw zs 5 0 [] = if dw then zs else zs.map fsZ := by
  cases dw <;> simp [ruZs, goF, hd, upF, cmdZs]
theorem keep_flush (size : Int) (dw : Bool) (zs : List Zp) (ks : List Int) (hsm : Sm zs) (hd : devF size zs = true) : Sm (ruZs size (-1) dw zs 5 0 []) ∧ (dw = false → ∀ (i : Nat) (z : Zp), zs[i]? = some z → ∃ z' : Zp, (cdZs size ks (ruZs size (-1) dw zs 5 0 []))[i]? = some z' ∧ z'.l = z.l) := by
  rw [ru_zs5 size dw zs hd]
  cases dw
  · refine ⟨sm_fs hsm, fun _ i z hz => ?_⟩
    have hz2 : (zs.map fsZ)[i]? = some (fsZ z) := by rw [List.getElem?_map, hz]; rfl
    refine ⟨_, cr_at size ks _ (dev_fs hd) hz2, (cr_keep (dev_all (dev_fs hd) hz2) ?_).trans rfl⟩
    simp only [fsZ]
    omega
  · exact ⟨hsm, fun h => by cases h⟩
theorem ru_lf1 (size : Int) (dw : Bool) (zs : List Zp) : ruLf size (-1) dw zs = -1 := by
  unfold ruLf
  split <;> simp
theorem ru_dw1 (size : Int) (dw : Bool) (zs : List Zp) : ruDw size (-1) dw zs = dw := by
  cases dw <;> simp [ruDw, upF]
theorem ru_er1 (size : Int) (dw : Bool) (zs : List Zp) (hd : devF size zs = true) : ruEr size (-1) dw zs 5 0 [] = if dw then 40 else 0 := by
  cases dw <;> simp [ruEr, hd, upF, cmdEr]

set_option maxRecDepth 100000 in
set_option maxHeartbeats 8000000 in
theorem DevKeeps_core {F : Nat → Prop} (size lf dn : Int) (dw : Bool) (A : Option Addr) (n c : Nat) (zs : List Zp) (Ak : Option Addr) (nk ck : Nat) (ks : List Int) (w : World) (z0 : Zs F w A n c zs) (s1 : Sl w Ak nk ck (ks.map iv)) (hfk : fits ks) :
    Calls Try.prog 6 #[.agg #[.int .i64 size, .slice A n c, .int .i64 lf, .bool dw, .int .i64 dn], .slice Ak nk ck] w (AwakePost w) := by
  have bb := Below.refl w.heap.size w
  go_enter Try.func6, Try.ntmps6
  replace z0 := z0.alloc (.cells #[.int .i64 size, .slice A n c, .int .i64 lf, .bool dw, .int .i64 dn] 25)
  replace s1 := s1.alloc (.cells #[.int .i64 size, .slice A n c, .int .i64 lf, .bool dw, .int .i64 dn] 25)
  replace bb := bb.alloc bb.size (.cells #[.int .i64 size, .slice A n c, .int .i64 lf, .bool dw, .int .i64 dn] 25)
  have Bd := Blk.new w #[.int .i64 size, .slice A n c, .int .i64 lf, .bool dw, .int .i64 dn] 25
  go_wp2_with fail
  generalize (w.alloc (.cells #[.int .i64 size, .slice A n c, .int .i64 lf, .bool dw, .int .i64 dn] 25)) = W1 at *
  have hC := awake4_any W1
  refine hC.mono ?_
  clear hC
  rintro e w1 ⟨rfl, ba⟩
  replace z0 := z0.below ba
  replace s1 := s1.below ba
  replace Bd := Bd.under ba
  replace bb := bb.trans (ba.mono bb.size)
  obtain ⟨Bdq0, Bdq1, Bdq2, Bdq3, Bdq4, Bdr0, Bdr1, Bdr2, Bdr3, Bdr4⟩ := Bd.five
  have Bdl := Bd.lt
  go_wp2_with fail
  clear Bdq0 Bdq1 Bdq2 Bdq3 Bdq4 Bdr0 Bdr1 Bdr2 Bdr3 Bdr4
  have hC := lSmall_any size lf dn dw A n c zs w1 z0
  refine hC.mono ?_
  clear hC
  rintro e w2 ⟨rfl, b2⟩
  replace z0 := z0.below b2
  replace s1 := s1.below b2
  replace Bd := Bd.under b2
  replace bb := bb.trans (b2.mono bb.size)
  cases hsm : smF zs
  · go_wp2
    go_ret
    exact ⟨rfl, bb⟩
  obtain ⟨hn70, hsm⟩ := smF_sm hsm
  have hlen : zs.length = n := z0.len
  obtain ⟨Bdq0, Bdq1, Bdq2, Bdq3, Bdq4, Bdr0, Bdr1, Bdr2, Bdr3, Bdr4⟩ := Bd.five
  have Bdl := Bd.lt
  go_wp2_with fail
  clear Bdq0 Bdq1 Bdq2 Bdq3 Bdq4 Bdr0 Bdr1 Bdr2 Bdr3 Bdr4
  have hC := dCheck_any size lf dn dw A n c zs w2 z0
  refine hC.mono ?_
  clear hC
  rintro e w3 ⟨rfl, b3⟩
  replace z0 := z0.below b3
  replace s1 := s1.below b3
  replace Bd := Bd.under b3
  replace bb := bb.trans (b3.mono bb.size)
  cases hc : devF size zs
  · go_wp2
    go_ret
    exact ⟨rfl, bb⟩
  by_cases h3 : 100 < (nk : Int)
  · go_wp2
    go_ret
    exact ⟨rfl, bb⟩
  have h3b : (nk : Int) ≤ 100 := by omega
  go_wp2_with fail
  obtain ⟨i0, hi, hz0, hz1, hz2⟩ := info_parts i3k
  have HO := Own.start (World.ownsRow_nil w3 w3.heap.size 3 1) (Nat.le_refl _)
  go_loopg [6, 7] n (fun g u i wr => ∃ (k : Nat) (Aa : Option Addr) (ca : Nat), k + g = n ∧ i = .int .i64 (k : Int) ∧ u = .slice Aa k ca ∧ Own w3.heap.size 3 w3 wr (.slice none 0 0) (.slice Aa k ca) k (List.replicate k (iv 1048576)) ∧ Below w3.heap.size w3 wr)
  case atStart => exact ⟨0, none, 0, by omega, rfl, rfl, HO, Below.refl _ _⟩
  case round =>
    clear HO
    obtain ⟨k, Aa, ca, hk, rfl, rfl, HO, br⟩ := hrel
    replace Bd := Bd.under br
    replace z0 := z0.below br
    replace s1 := s1.below br
    replace bb := bb.trans (br.mono bb.size)
    obtain ⟨Bdq0, Bdq1, Bdq2, Bdq3, Bdq4, Bdr0, Bdr1, Bdr2, Bdr3, Bdr4⟩ := Bd.five
    have Bdl := Bd.lt
    by_cases hlt : (k : Int) < (n : Int)
    · obtain ⟨g, rfl⟩ : ∃ g, gk = g + 1 := ⟨gk - 1, by omega⟩
      have HO2 := HO.alloc (.cells #[.int .i64 1048576] 3)
      have hsl := Sl.one wr (.int .i64 1048576) 3
      go_wp2_with (at_builtin
                   refine wpList_app rfl (.tmp 35) (.tmp 36) 26 rfl rfl HO2 i0 (.int .i64 0) 8 Try.underlying26 hi hz0 hz1 hz2 rfl _ _ _ _ rfl hsl (by intro u hu; rcases List.mem_cons.1 hu with rfl | hu; rfl; cases hu) (by omega) (by omega) ?_
                   intro A2 c2 w2' hw2)
      go_roundg g
      case measure => omega
      case rel =>
        refine ⟨k + 1, A2, c2, by omega, by first | rfl | (simp; done), by first | rfl | (simp; done), ?_, hw2.below (Below.refl _ _) (Nat.le_refl _) (fun b hb => by cases hb)⟩
        have e : List.replicate (k + 1) (iv 1048576) = List.replicate k (iv 1048576) ++ [.int .i64 1048576] := by rw [List.replicate_succ']; rfl
        rw [e]
        exact hw2
    · obtain rfl : k = n := by omega
      have sa : Sl wr Aa k ca ((List.replicate k (1048576 : Int)).map iv) := by rw [List.map_replicate]; exact HO.to_sl
      clear HO br hlt hk
      obtain ⟨Za, hZa⟩ : ∃ x, Hid (cdZs size (List.replicate k 1048576) zs = x) := ⟨_, rfl⟩
      have hfa := fits_rep k
      obtain ⟨Df, hDf⟩ : ∃ x, Hid (ruDn size (-1) dn dw zs = x) := ⟨_, rfl⟩
      obtain ⟨Zf, hZf⟩ : ∃ x, Hid (ruZs size (-1) dw zs 5 0 [] = x) := ⟨_, rfl⟩
      have hk1 : Hid (∀ (i : Nat) (z : Zp), zs[i]? = some z → ∃ z' : Zp, Za[i]? = some z' ∧ z'.l = z.l) := by
        show ∀ (i : Nat) (z : Zp), _
        rw [← hZa.out]
        exact keep_all size zs k (by omega) hc
      have hk2 : Hid (Sm Zf ∧ (dw = false → ∀ (i : Nat) (z : Zp), zs[i]? = some z → ∃ z' : Zp, (cdZs size ks Zf)[i]? = some z' ∧ z'.l = z.l)) := by
        show _ ∧ _
        rw [← hZf.out]
        exact keep_flush size dw zs ks hsm hc
      obtain ⟨Lb, hLb⟩ : ∃ x, Hid (cdLf size (-1) Zf = x) := ⟨_, rfl⟩
      obtain ⟨Db, hDb⟩ : ∃ x, Hid (cdDw size dw Zf = x) := ⟨_, rfl⟩
      obtain ⟨Zb, hZb⟩ : ∃ x, Hid (cdZs size ks Zf = x) := ⟨_, rfl⟩
      go_wp2_with fail
      clear Bdq0 Bdq1 Bdq2 Bdq3 Bdq4 Bdr0 Bdr1 Bdr2 Bdr3 Bdr4
      have hC := dCrash_at size lf dn dw A k c zs Aa k ca (List.replicate k 1048576) (-1) false Za wr z0 hsm sa hfa (by simp [cdLf, hc]) (by simp [cdDw, hc]) hZa.out
      refine hC.mono ?_
      clear hC
      rintro e w5 ⟨A5, rfl, z5, b5⟩
      replace z0 := z0.below b5
      replace s1 := s1.below b5
      replace Bd := Bd.under b5
      replace sa := sa.below b5
      replace bb := bb.trans (b5.mono bb.size)
      clear sa
      obtain ⟨Bdq0, Bdq1, Bdq2, Bdq3, Bdq4, Bdr0, Bdr1, Bdr2, Bdr3, Bdr4⟩ := Bd.five
      have Bdl := Bd.lt
      replace z0 := z0.alloc (.cells #[.int .i64 size, .slice A5 k k, .int .i64 (-1), .bool false, .int .i64 dn] 25)
      replace s1 := s1.alloc (.cells #[.int .i64 size, .slice A5 k k, .int .i64 (-1), .bool false, .int .i64 dn] 25)
      replace Bd := Bd.alloc (.cells #[.int .i64 size, .slice A5 k k, .int .i64 (-1), .bool false, .int .i64 dn] 25)
      replace z5 := z5.alloc (.cells #[.int .i64 size, .slice A5 k k, .int .i64 (-1), .bool false, .int .i64 dn] 25)
      replace bb := bb.alloc bb.size (.cells #[.int .i64 size, .slice A5 k k, .int .i64 (-1), .bool false, .int .i64 dn] 25)
      have Ba := Blk.new w5 #[.int .i64 size, .slice A5 k k, .int .i64 (-1), .bool false, .int .i64 dn] 25
      go_wp2_with fail
      clear Bdq0 Bdq1 Bdq2 Bdq3 Bdq4 Bdr0 Bdr1 Bdr2 Bdr3 Bdr4
      generalize (w5.alloc (.cells #[.int .i64 size, .slice A5 k k, .int .i64 (-1), .bool false, .int .i64 dn] 25)) = v1 at *
      obtain ⟨ka, hka⟩ : ∃ k, w5.heap.size = k := ⟨_, rfl⟩
      simp only [hka] at Ba ⊢
      clear hka
      have hC := dLimit_at size lf dn (-1) dw A k c zs v1 z0 hsm
      refine hC.mono ?_
      clear hC
      rintro e w6 ⟨A6, rfl, z6, b6⟩
      replace z0 := z0.below b6
      replace s1 := s1.below b6
      replace Bd := Bd.under b6
      replace z5 := z5.below b6
      replace Ba := Ba.under b6
      replace bb := bb.trans (b6.mono bb.size)
      go_wp2_with fail
      have hC := dDo_at size (-1) dn dw A6 k k zs 5 0 none 0 0 [] (-1) Df dw Zf (if dw then 40 else 0) w6 z6 hsm (Sl.nil _) (by decide) (by decide) (ru_lf1 size dw zs) hDf.out (ru_dw1 size dw zs) hZf.out (ru_er1 size dw zs hc)
      refine hC.mono ?_
      clear hC
      rintro e w7 ⟨A7, rfl, z7, b7⟩
      replace z0 := z0.below b7
      replace s1 := s1.below b7
      replace Bd := Bd.under b7
      replace z5 := z5.below b7
      replace Ba := Ba.under b7
      replace z6 := z6.below b7
      replace bb := bb.trans (b7.mono bb.size)
      clear z6
      obtain ⟨er, her⟩ : ∃ x : Int, Hid ((if dw then (40 : Int) else 0) = x) := ⟨_, rfl⟩
      rw [her.out]
      replace z0 := z0.alloc (.cells #[.int .i64 size, .slice A7 k k, .int .i64 (-1), .bool dw, .int .i64 Df] 25)
      replace s1 := s1.alloc (.cells #[.int .i64 size, .slice A7 k k, .int .i64 (-1), .bool dw, .int .i64 Df] 25)
      replace Bd := Bd.alloc (.cells #[.int .i64 size, .slice A7 k k, .int .i64 (-1), .bool dw, .int .i64 Df] 25)
      replace z5 := z5.alloc (.cells #[.int .i64 size, .slice A7 k k, .int .i64 (-1), .bool dw, .int .i64 Df] 25)
      replace Ba := Ba.alloc (.cells #[.int .i64 size, .slice A7 k k, .int .i64 (-1), .bool dw, .int .i64 Df] 25)
      replace z7 := z7.alloc (.cells #[.int .i64 size, .slice A7 k k, .int .i64 (-1), .bool dw, .int .i64 Df] 25)
      replace bb := bb.alloc bb.size (.cells #[.int .i64 size, .slice A7 k k, .int .i64 (-1), .bool dw, .int .i64 Df] 25)
      have Bf := Blk.new w7 #[.int .i64 size, .slice A7 k k, .int .i64 (-1), .bool dw, .int .i64 Df] 25
      go_wp2_with fail
      generalize (w7.alloc (.cells #[.int .i64 size, .slice A7 k k, .int .i64 (-1), .bool dw, .int .i64 Df] 25)) = v2 at *
      obtain ⟨kf, hkf⟩ : ∃ k, w7.heap.size = k := ⟨_, rfl⟩
      simp only [hkf] at Bf ⊢
      clear hkf
      have hC := dCrash_at size (-1) Df dw A7 k k Zf Ak nk ck ks Lb Db Zb v2 z7 hk2.out.1 s1 hfk hLb.out hDb.out hZb.out
      refine hC.mono ?_
      clear hC
      rintro e w8 ⟨A8, rfl, z8, b8⟩
      replace z0 := z0.below b8
      replace s1 := s1.below b8
      replace Bd := Bd.under b8
      replace z5 := z5.below b8
      replace Ba := Ba.under b8
      replace z7 := z7.below b8
      replace Bf := Bf.under b8
      replace bb := bb.trans (b8.mono bb.size)
      obtain ⟨Bdq0, Bdq1, Bdq2, Bdq3, Bdq4, Bdr0, Bdr1, Bdr2, Bdr3, Bdr4⟩ := Bd.five
      have Bdl := Bd.lt
      obtain ⟨Baq0, Baq1, Baq2, Baq3, Baq4, Bar0, Bar1, Bar2, Bar3, Bar4⟩ := Ba.five
      have Bal := Ba.lt
      replace z0 := z0.alloc (.cells #[.int .i64 size, .slice A8 k k, .int .i64 Lb, .bool Db, .int .i64 Df] 25)
      replace s1 := s1.alloc (.cells #[.int .i64 size, .slice A8 k k, .int .i64 Lb, .bool Db, .int .i64 Df] 25)
      replace Bd := Bd.alloc (.cells #[.int .i64 size, .slice A8 k k, .int .i64 Lb, .bool Db, .int .i64 Df] 25)
      replace z5 := z5.alloc (.cells #[.int .i64 size, .slice A8 k k, .int .i64 Lb, .bool Db, .int .i64 Df] 25)
      replace Ba := Ba.alloc (.cells #[.int .i64 size, .slice A8 k k, .int .i64 Lb, .bool Db, .int .i64 Df] 25)
      replace z7 := z7.alloc (.cells #[.int .i64 size, .slice A8 k k, .int .i64 Lb, .bool Db, .int .i64 Df] 25)
      replace Bf := Bf.alloc (.cells #[.int .i64 size, .slice A8 k k, .int .i64 Lb, .bool Db, .int .i64 Df] 25)
      replace z8 := z8.alloc (.cells #[.int .i64 size, .slice A8 k k, .int .i64 Lb, .bool Db, .int .i64 Df] 25)
      replace bb := bb.alloc bb.size (.cells #[.int .i64 size, .slice A8 k k, .int .i64 Lb, .bool Db, .int .i64 Df] 25)
      have Bb := Blk.new w8 #[.int .i64 size, .slice A8 k k, .int .i64 Lb, .bool Db, .int .i64 Df] 25
      go_wp2_with fail
      clear Bdq0 Bdq1 Bdq2 Bdq3 Bdq4 Bdr0 Bdr1 Bdr2 Bdr3 Bdr4
      clear Baq0 Baq1 Baq2 Baq3 Baq4 Bar0 Bar1 Bar2 Bar3 Bar4
      generalize (w8.alloc (.cells #[.int .i64 size, .slice A8 k k, .int .i64 Lb, .bool Db, .int .i64 Df] 25)) = v3 at *
      obtain ⟨kb, hkb⟩ : ∃ k, w8.heap.size = k := ⟨_, rfl⟩
      simp only [hkb] at Bb ⊢
      clear hkb
      skip
      obtain ⟨m, hm⟩ : ∃ m, k = m := ⟨_, rfl⟩
      subst hm
      go_loopg [12] k (fun g i wr => ∃ j : Nat, j + g = k ∧ i = .int .i64 (j : Int) ∧ Below v3.heap.size v3 wr)
      case atStart => exact ⟨0, by omega, rfl, Below.refl _ _⟩
      case round =>
        obtain ⟨j, hj, rfl, br⟩ := hrel
        replace Bd := Bd.under br
        replace Ba := Ba.under br
        replace Bb := Bb.under br
        replace z0 := z0.below br
        replace z5 := z5.below br
        replace z8 := z8.below br
        replace bb := bb.trans (br.mono bb.size)
        obtain ⟨Bdq0, Bdq1, Bdq2, Bdq3, Bdq4, Bdr0, Bdr1, Bdr2, Bdr3, Bdr4⟩ := Bd.five
        have Bdl := Bd.lt
        by_cases hlt : (j : Int) < (k : Int)
        · obtain ⟨g, rfl⟩ : ∃ g, gk = g + 1 := ⟨gk - 1, by omega⟩
          obtain ⟨gb, o, z, Ai, ci, rfl, _, hg, hz, c0, c1, c2, c3, hS, _⟩ := z0.at_ (show j < k by omega)
          obtain ⟨gx, ox, zx, Ax, cx, rfl, _, hgx, hzx, e0, e1, e2, e3, hX, _⟩ := z5.at_ (show j < k by omega)
          obtain ⟨gy, oy, zy, Ay, cy, rfl, _, hgy, hzy, d0, d1, d2, d3, hY, _⟩ := z8.at_ (show j < k by omega)
          have hcp := z0.cap
          have hlx : zx.l = z.l := by
            obtain ⟨z', h1, h2⟩ := hk1.out j z hz
            rw [hzx] at h1
            cases h1
            exact h2
          rw [hlx] at hX e2
          have qz := fun W (h : Below wr.heap.size wr W) => str_of (hS.below h)
          have qx := fun W (h : Below wr.heap.size wr W) => str_of (hX.below h)
          have qy := fun W (h : Below wr.heap.size wr W) => str_of (hY.below h)
          have hly : Hid (dw = false → zy.l = z.l) := by
            intro hd
            obtain ⟨z', h1, h2⟩ := hk2.out.2 hd j z hz
            rw [hZb.out, hzy] at h1
            cases h1
            exact h2
          replace hj : Hid _ := hj
          clear hz hzx hzy hlx
          go_wp2_with fail
          clear Bdq0 Bdq1 Bdq2 Bdq3 Bdq4 Bdr0 Bdr1 Bdr2 Bdr3 Bdr4
          by_cases hly2 : zy.l = z.l
          · rw [hly2] at d2 hY
            have qy := fun W (h : Below wr.heap.size wr W) => str_of (hY.below h)
            clear hly2
            refine wp_region_held_drew (S := fun w' => Below wr.heap.size wr w') (by kernel_rfl) (Below.refl _ _).drew (fun hHeld => ?_)
            try dsimp only at hHeld
            have bd : Below wr.heap.size wr wr.drew := (Below.refl wr.heap.size wr).drew
            generalize wr.drew = wd at *
            try simp only [Act.put, List.setIfInBounds_toArray, List.set_cons_zero, List.set_cons_succ]
            refine wpAnyH_take (i := 0) (v := ?_) (by simp only [List.getElem?_toArray, List.getElem?_cons_zero]; rfl) (by kernel_rfl) (by kernel_rfl) (by kernel_rfl) (by intro _ _ _ h; exact h) (Or.inl ⟨by rfl, ?_⟩) hHeld ?_
            rotate_left 1
            · intro wq hSw
              try dsimp only at hSw
              go_simp
              try (with_reducible rfl)
            try simp only [Act.put, List.setIfInBounds_toArray, List.set_cons_zero, List.set_cons_succ]
            refine wpAnyH_take (i := 1) (v := ?_) (by simp only [List.getElem?_toArray, List.getElem?_cons_succ, List.getElem?_cons_zero]; rfl) (by kernel_rfl) (by kernel_rfl) (by kernel_rfl) (by intro _ _ _ h; exact h) (Or.inl ⟨by rfl, ?_⟩) hHeld ?_
            rotate_left 1
            · intro wq hSw
              try dsimp only at hSw
              obtain ⟨x0, x1, x2, x3, x4, _⟩ := (Ba.under hSw).five
              go_simp
              try (with_reducible rfl)
            try simp only [Act.put, List.setIfInBounds_toArray, List.set_cons_zero, List.set_cons_succ]
            refine wpAnyH_take (i := 2) (v := ?_) (by simp only [List.getElem?_toArray, List.getElem?_cons_succ, List.getElem?_cons_zero]; rfl) (by kernel_rfl) (by kernel_rfl) (by kernel_rfl) (by intro _ _ _ h; exact h) (Or.inl ⟨by rfl, ?_⟩) hHeld ?_
            rotate_left 1
            · intro wq hSw
              try dsimp only at hSw
              go_simp
              try (with_reducible rfl)
            try simp only [Act.put, List.setIfInBounds_toArray, List.set_cons_zero, List.set_cons_succ]
            refine wpAnyH_take (i := 3) (v := ?_) (by simp only [List.getElem?_toArray, List.getElem?_cons_succ, List.getElem?_cons_zero]; rfl) (by kernel_rfl) (by kernel_rfl) (by kernel_rfl) (by intro _ _ _ h; exact h) (Or.inl ⟨by rfl, ?_⟩) hHeld ?_
            rotate_left 1
            · intro wq hSw
              try dsimp only at hSw
              go_simp
              try (with_reducible rfl)
            try simp only [Act.put, List.setIfInBounds_toArray, List.set_cons_zero, List.set_cons_succ]
            refine wpAnyH_take (i := 4) (v := ?_) (by simp only [List.getElem?_toArray, List.getElem?_cons_succ, List.getElem?_cons_zero]; rfl) (by kernel_rfl) (by kernel_rfl) (by kernel_rfl) (by intro _ _ _ h; exact h) (Or.inl ⟨by rfl, ?_⟩) hHeld ?_
            rotate_left 1
            · intro wq hSw
              try dsimp only at hSw
              go_simp
              try (with_reducible rfl)
            try simp only [Act.put, List.setIfInBounds_toArray, List.set_cons_zero, List.set_cons_succ]
            refine wpAnyH_take (i := 5) (v := ?_) (by simp only [List.getElem?_toArray, List.getElem?_cons_succ, List.getElem?_cons_zero]; rfl) (by kernel_rfl) (by kernel_rfl) (by kernel_rfl) (by intro _ _ _ h; exact h) (Or.inl ⟨by rfl, ?_⟩) hHeld ?_
            rotate_left 1
            · intro wq hSw
              try dsimp only at hSw
              have x0 := (hSw.cell hgx).trans e2
              go_simp
              try (with_reducible rfl)
            try simp only [Act.put, List.setIfInBounds_toArray, List.set_cons_zero, List.set_cons_succ]
            refine wpAnyH_take (i := 6) (v := ?_) (by simp only [List.getElem?_toArray, List.getElem?_cons_succ, List.getElem?_cons_zero]; rfl) (by kernel_rfl) (by kernel_rfl) (by kernel_rfl) (by intro _ _ _ h; exact h) (Or.inl ⟨by rfl, ?_⟩) hHeld ?_
            rotate_left 1
            · intro wq hSw
              try dsimp only at hSw
              have q := qx wq hSw
              go_simp
              try (with_reducible rfl)
            try simp only [Act.put, List.setIfInBounds_toArray, List.set_cons_zero, List.set_cons_succ]
            refine wpAnyH_take (i := 7) (v := ?_) (by simp only [List.getElem?_toArray, List.getElem?_cons_succ, List.getElem?_cons_zero]; rfl) (by kernel_rfl) (by kernel_rfl) (by kernel_rfl) (by intro _ _ _ h; exact h) (Or.inl ⟨by rfl, ?_⟩) hHeld ?_
            rotate_left 1
            · intro wq hSw
              try dsimp only at hSw
              go_simp
              try (with_reducible rfl)
            try simp only [Act.put, List.setIfInBounds_toArray, List.set_cons_zero, List.set_cons_succ]
            refine wpAnyH_take (i := 8) (v := ?_) (by simp only [List.getElem?_toArray, List.getElem?_cons_succ, List.getElem?_cons_zero]; rfl) (by kernel_rfl) (by kernel_rfl) (by kernel_rfl) (by intro _ _ _ h; exact h) (Or.inl ⟨by rfl, ?_⟩) hHeld ?_
            rotate_left 1
            · intro wq hSw
              try dsimp only at hSw
              obtain ⟨x0, x1, x2, x3, x4, _⟩ := (Bd.under hSw).five
              go_simp
              try (with_reducible rfl)
            try simp only [Act.put, List.setIfInBounds_toArray, List.set_cons_zero, List.set_cons_succ]
            refine wpAnyH_take (i := 9) (v := ?_) (by simp only [List.getElem?_toArray, List.getElem?_cons_succ, List.getElem?_cons_zero]; rfl) (by kernel_rfl) (by kernel_rfl) (by kernel_rfl) (by intro _ _ _ h; exact h) (Or.inl ⟨by rfl, ?_⟩) hHeld ?_
            rotate_left 1
            · intro wq hSw
              try dsimp only at hSw
              go_simp
              try (with_reducible rfl)
            try simp only [Act.put, List.setIfInBounds_toArray, List.set_cons_zero, List.set_cons_succ]
            refine wpAnyH_take (i := 10) (v := ?_) (by simp only [List.getElem?_toArray, List.getElem?_cons_succ, List.getElem?_cons_zero]; rfl) (by kernel_rfl) (by kernel_rfl) (by kernel_rfl) (by intro _ _ _ h; exact h) (Or.inl ⟨by rfl, ?_⟩) hHeld ?_
            rotate_left 1
            · intro wq hSw
              try dsimp only at hSw
              go_simp
              try (with_reducible rfl)
            try simp only [Act.put, List.setIfInBounds_toArray, List.set_cons_zero, List.set_cons_succ]
            refine wpAnyH_take (i := 11) (v := ?_) (by simp only [List.getElem?_toArray, List.getElem?_cons_succ, List.getElem?_cons_zero]; rfl) (by kernel_rfl) (by kernel_rfl) (by kernel_rfl) (by intro _ _ _ h; exact h) (Or.inl ⟨by rfl, ?_⟩) hHeld ?_
            rotate_left 1
            · intro wq hSw
              try dsimp only at hSw
              go_simp
              try (with_reducible rfl)
            try simp only [Act.put, List.setIfInBounds_toArray, List.set_cons_zero, List.set_cons_succ]
            refine wpAnyH_take (i := 12) (v := ?_) (by simp only [List.getElem?_toArray, List.getElem?_cons_succ, List.getElem?_cons_zero]; rfl) (by kernel_rfl) (by kernel_rfl) (by kernel_rfl) (by intro _ _ _ h; exact h) (Or.inl ⟨by rfl, ?_⟩) hHeld ?_
            rotate_left 1
            · intro wq hSw
              try dsimp only at hSw
              have x0 := (hSw.cell hg).trans c2
              go_simp
              try (with_reducible rfl)
            try simp only [Act.put, List.setIfInBounds_toArray, List.set_cons_zero, List.set_cons_succ]
            refine wpAnyH_take (i := 13) (v := ?_) (by simp only [List.getElem?_toArray, List.getElem?_cons_succ, List.getElem?_cons_zero]; rfl) (by kernel_rfl) (by kernel_rfl) (by kernel_rfl) (by intro _ _ _ h; exact h) (Or.inl ⟨by rfl, ?_⟩) hHeld ?_
            rotate_left 1
            · intro wq hSw
              try dsimp only at hSw
              have q := qz wq hSw
              go_simp
              try (with_reducible rfl)
            try simp only [Act.put, List.setIfInBounds_toArray, List.set_cons_zero, List.set_cons_succ]
            refine wpAnyH_take (i := 14) (v := ?_) (by simp only [List.getElem?_toArray, List.getElem?_cons_succ, List.getElem?_cons_zero]; rfl) (by kernel_rfl) (by kernel_rfl) (by kernel_rfl) (by intro _ _ _ h; exact h) (Or.inl ⟨by rfl, ?_⟩) hHeld ?_
            rotate_left 1
            · intro wq hSw
              try dsimp only at hSw
              go_simp
              try (with_reducible rfl)
            try simp only [Act.put, List.setIfInBounds_toArray, List.set_cons_zero, List.set_cons_succ]
            refine wpAnyH_take (i := 15) (v := ?_) (by simp only [List.getElem?_toArray, List.getElem?_cons_succ, List.getElem?_cons_zero]; rfl) (by kernel_rfl) (by kernel_rfl) (by kernel_rfl) (by intro _ _ _ h; exact h) (Or.inl ⟨by rfl, ?_⟩) hHeld ?_
            rotate_left 1
            · intro wq hSw
              try dsimp only at hSw
              go_simp
              try (with_reducible rfl)
            try simp only [Act.put, List.setIfInBounds_toArray, List.set_cons_zero, List.set_cons_succ]
            refine wpAnyH_take (i := 16) (v := ?_) (by simp only [List.getElem?_toArray, List.getElem?_cons_succ, List.getElem?_cons_zero]; rfl) (by kernel_rfl) (by kernel_rfl) (by kernel_rfl) (by intro _ _ _ h; exact h) (Or.inl ⟨by rfl, ?_⟩) hHeld ?_
            rotate_left 1
            · intro wq hSw
              try dsimp only at hSw
              go_simp
              try (with_reducible rfl)
            try simp only [Act.put, List.setIfInBounds_toArray, List.set_cons_zero, List.set_cons_succ]
            refine wpAnyH_take (i := 17) (v := ?_) (by simp only [List.getElem?_toArray, List.getElem?_cons_succ, List.getElem?_cons_zero]; rfl) (by kernel_rfl) (by kernel_rfl) (by kernel_rfl) (by intro _ _ _ h; exact h) (Or.inl ⟨by rfl, ?_⟩) hHeld ?_
            rotate_left 1
            · intro wq hSw
              try dsimp only at hSw
              obtain ⟨x0, x1, x2, x3, x4, _⟩ := (Bb.under hSw).five
              go_simp
              try (with_reducible rfl)
            try simp only [Act.put, List.setIfInBounds_toArray, List.set_cons_zero, List.set_cons_succ]
            refine wpAnyH_take (i := 18) (v := ?_) (by simp only [List.getElem?_toArray, List.getElem?_cons_succ, List.getElem?_cons_zero]; rfl) (by kernel_rfl) (by kernel_rfl) (by kernel_rfl) (by intro _ _ _ h; exact h) (Or.inl ⟨by rfl, ?_⟩) hHeld ?_
            rotate_left 1
            · intro wq hSw
              try dsimp only at hSw
              go_simp
              try (with_reducible rfl)
            try simp only [Act.put, List.setIfInBounds_toArray, List.set_cons_zero, List.set_cons_succ]
            refine wpAnyH_take (i := 19) (v := ?_) (by simp only [List.getElem?_toArray, List.getElem?_cons_succ, List.getElem?_cons_zero]; rfl) (by kernel_rfl) (by kernel_rfl) (by kernel_rfl) (by intro _ _ _ h; exact h) (Or.inl ⟨by rfl, ?_⟩) hHeld ?_
            rotate_left 1
            · intro wq hSw
              try dsimp only at hSw
              go_simp
              try (with_reducible rfl)
            try simp only [Act.put, List.setIfInBounds_toArray, List.set_cons_zero, List.set_cons_succ]
            refine wpAnyH_take (i := 20) (v := ?_) (by simp only [List.getElem?_toArray, List.getElem?_cons_succ, List.getElem?_cons_zero]; rfl) (by kernel_rfl) (by kernel_rfl) (by kernel_rfl) (by intro _ _ _ h; exact h) (Or.inl ⟨by rfl, ?_⟩) hHeld ?_
            rotate_left 1
            · intro wq hSw
              try dsimp only at hSw
              go_simp
              try (with_reducible rfl)
            try simp only [Act.put, List.setIfInBounds_toArray, List.set_cons_zero, List.set_cons_succ]
            refine wpAnyH_take (i := 21) (v := ?_) (by simp only [List.getElem?_toArray, List.getElem?_cons_succ, List.getElem?_cons_zero]; rfl) (by kernel_rfl) (by kernel_rfl) (by kernel_rfl) (by intro _ _ _ h; exact h) (Or.inl ⟨by rfl, ?_⟩) hHeld ?_
            rotate_left 1
            · intro wq hSw
              try dsimp only at hSw
              have x0 := (hSw.cell hgy).trans d2
              go_simp
              try (with_reducible rfl)
            try simp only [Act.put, List.setIfInBounds_toArray, List.set_cons_zero, List.set_cons_succ]
            refine wpAnyH_take (i := 22) (v := ?_) (by simp only [List.getElem?_toArray, List.getElem?_cons_succ, List.getElem?_cons_zero]; rfl) (by kernel_rfl) (by kernel_rfl) (by kernel_rfl) (by intro _ _ _ h; exact h) (Or.inl ⟨by rfl, ?_⟩) hHeld ?_
            rotate_left 1
            · intro wq hSw
              try dsimp only at hSw
              have q := qy wq hSw
              go_simp
              try (with_reducible rfl)
            try simp only [Act.put, List.setIfInBounds_toArray, List.set_cons_zero, List.set_cons_succ]
            refine wpAnyH_take (i := 23) (v := ?_) (by simp only [List.getElem?_toArray, List.getElem?_cons_succ, List.getElem?_cons_zero]; rfl) (by kernel_rfl) (by kernel_rfl) (by kernel_rfl) (by intro _ _ _ h; exact h) (Or.inl ⟨by rfl, ?_⟩) hHeld ?_
            rotate_left 1
            · intro wq hSw
              try dsimp only at hSw
              go_simp
              try (with_reducible rfl)
            try simp only [Act.put, List.setIfInBounds_toArray, List.set_cons_zero, List.set_cons_succ]
            refine wpAnyH_take (i := 24) (v := ?_) (by simp only [List.getElem?_toArray, List.getElem?_cons_succ, List.getElem?_cons_zero]; rfl) (by kernel_rfl) (by kernel_rfl) (by kernel_rfl) (by intro _ _ _ h; exact h) (Or.inl ⟨by rfl, ?_⟩) hHeld ?_
            rotate_left 1
            · intro wq hSw
              try dsimp only at hSw
              obtain ⟨x0, x1, x2, x3, x4, _⟩ := (Bd.under hSw).five
              go_simp
              try (with_reducible rfl)
            try simp only [Act.put, List.setIfInBounds_toArray, List.set_cons_zero, List.set_cons_succ]
            refine wpAnyH_take (i := 25) (v := ?_) (by simp only [List.getElem?_toArray, List.getElem?_cons_succ, List.getElem?_cons_zero]; rfl) (by kernel_rfl) (by kernel_rfl) (by kernel_rfl) (by intro _ _ _ h; exact h) (Or.inl ⟨by rfl, ?_⟩) hHeld ?_
            rotate_left 1
            · intro wq hSw
              try dsimp only at hSw
              go_simp
              try (with_reducible rfl)
            try simp only [Act.put, List.setIfInBounds_toArray, List.set_cons_zero, List.set_cons_succ]
            refine wpAnyH_take (i := 26) (v := ?_) (by simp only [List.getElem?_toArray, List.getElem?_cons_succ, List.getElem?_cons_zero]; rfl) (by kernel_rfl) (by kernel_rfl) (by kernel_rfl) (by intro _ _ _ h; exact h) (Or.inl ⟨by rfl, ?_⟩) hHeld ?_
            rotate_left 1
            · intro wq hSw
              try dsimp only at hSw
              go_simp
              try (with_reducible rfl)
            try simp only [Act.put, List.setIfInBounds_toArray, List.set_cons_zero, List.set_cons_succ]
            refine wpAnyH_take (i := 27) (v := ?_) (by simp only [List.getElem?_toArray, List.getElem?_cons_succ, List.getElem?_cons_zero]; rfl) (by kernel_rfl) (by kernel_rfl) (by kernel_rfl) (by intro _ _ _ h; exact h) (Or.inl ⟨by rfl, ?_⟩) hHeld ?_
            rotate_left 1
            · intro wq hSw
              try dsimp only at hSw
              go_simp
              try (with_reducible rfl)
            try simp only [Act.put, List.setIfInBounds_toArray, List.set_cons_zero, List.set_cons_succ]
            refine wpAnyH_take (i := 28) (v := ?_) (by simp only [List.getElem?_toArray, List.getElem?_cons_succ, List.getElem?_cons_zero]; rfl) (by kernel_rfl) (by kernel_rfl) (by kernel_rfl) (by intro _ _ _ h; exact h) (Or.inl ⟨by rfl, ?_⟩) hHeld ?_
            rotate_left 1
            · intro wq hSw
              try dsimp only at hSw
              have x0 := (hSw.cell hg).trans c2
              go_simp
              try (with_reducible rfl)
            try simp only [Act.put, List.setIfInBounds_toArray, List.set_cons_zero, List.set_cons_succ]
            refine wpAnyH_take (i := 29) (v := ?_) (by simp only [List.getElem?_toArray, List.getElem?_cons_succ, List.getElem?_cons_zero]; rfl) (by kernel_rfl) (by kernel_rfl) (by kernel_rfl) (by intro _ _ _ h; exact h) (Or.inl ⟨by rfl, ?_⟩) hHeld ?_
            rotate_left 1
            · intro wq hSw
              try dsimp only at hSw
              have q := qz wq hSw
              go_simp
              try (with_reducible rfl)
            try simp only [Act.put, List.setIfInBounds_toArray, List.set_cons_zero, List.set_cons_succ]
            refine wpAnyH_take (i := 30) (v := ?_) (by simp only [List.getElem?_toArray, List.getElem?_cons_succ, List.getElem?_cons_zero]; rfl) (by kernel_rfl) (by kernel_rfl) (by kernel_rfl) (by intro _ _ _ h; exact h) (Or.inl ⟨by rfl, ?_⟩) hHeld ?_
            rotate_left 1
            · intro wq hSw
              try dsimp only at hSw
              go_simp
              try (with_reducible rfl)
            try simp only [Act.put, List.setIfInBounds_toArray, List.set_cons_zero, List.set_cons_succ]
            refine wpAnyH_take (i := 31) (v := ?_) (by simp only [List.getElem?_toArray, List.getElem?_cons_succ, List.getElem?_cons_zero]; rfl) (by kernel_rfl) (by kernel_rfl) (by kernel_rfl) (by intro _ _ _ h; exact h) (Or.inl ⟨by rfl, ?_⟩) hHeld ?_
            rotate_left 1
            · intro wq hSw
              try dsimp only at hSw
              go_simp
              try (with_reducible rfl)
            try simp only [Act.put, List.setIfInBounds_toArray, List.set_cons_zero, List.set_cons_succ]
            refine wpAnyH_take (i := 32) (v := undef) (by simp only [List.getElem?_toArray, List.getElem?_cons_succ, List.getElem?_cons_zero]; rfl) (by kernel_rfl) (by kernel_rfl) (by kernel_rfl) (by intro _ _ _ h; exact h) (Or.inr ⟨by rfl, rfl⟩) hHeld ?_
            try simp only [Act.put, List.setIfInBounds_toArray, List.set_cons_zero, List.set_cons_succ]
            refine wpAnyH_take (i := 33) (v := undef) (by simp only [List.getElem?_toArray, List.getElem?_cons_succ, List.getElem?_cons_zero]; rfl) (by kernel_rfl) (by kernel_rfl) (by kernel_rfl) (by intro _ _ _ h; exact h) (Or.inr ⟨by rfl, rfl⟩) hHeld ?_
            try simp only [Act.put, List.setIfInBounds_toArray, List.set_cons_zero, List.set_cons_succ]
            refine wpAnyH_take (i := 34) (v := undef) (by simp only [List.getElem?_toArray, List.getElem?_cons_succ, List.getElem?_cons_zero]; rfl) (by kernel_rfl) (by kernel_rfl) (by kernel_rfl) (by intro _ _ _ h; exact h) (Or.inr ⟨by rfl, rfl⟩) hHeld ?_
            try simp only [Act.put, List.setIfInBounds_toArray, List.set_cons_zero, List.set_cons_succ]
            refine wpAnyH_take (i := 35) (v := ?_) (by simp only [List.getElem?_toArray, List.getElem?_cons_succ, List.getElem?_cons_zero]; rfl) (by kernel_rfl) (by kernel_rfl) (by kernel_rfl) (by intro _ _ _ h; exact h) (Or.inl ⟨by rfl, ?_⟩) hHeld ?_
            rotate_left 1
            · intro wq hSw
              try dsimp only at hSw
              go_simp
              try (with_reducible rfl)
            try simp only [Act.put, List.setIfInBounds_toArray, List.set_cons_zero, List.set_cons_succ]
            refine wpAnyH_take (i := 36) (v := ?_) (by simp only [List.getElem?_toArray, List.getElem?_cons_succ, List.getElem?_cons_zero]; rfl) (by kernel_rfl) (by kernel_rfl) (by kernel_rfl) (by intro _ _ _ h; exact h) (Or.inl ⟨by rfl, ?_⟩) hHeld ?_
            rotate_left 1
            · intro wq hSw
              try dsimp only at hSw
              go_simp
              try (with_reducible rfl)
            try simp only [Act.put, List.setIfInBounds_toArray, List.set_cons_zero, List.set_cons_succ]
            refine wpAnyH_done (by kernel_rfl) ?_ _
            go_wp2
            go_roundg g
            case measure => omega
            case rel => exact ⟨j + 1, by have := hj.out; omega, by first | rfl | (simp; done) | (simp; exact wrap64_small (by omega) (by omega)), br.trans (bd.mono br.size)⟩
          · obtain rfl : dw = true := by
              cases dw
              · exact absurd (hly.out rfl) hly2
              · rfl
            have hb : ((⟨zy.l.toArray⟩ : ByteArray) == ⟨z.l.toArray⟩) = false := str_ne4 hly2
            have hb2 : (zy.l == z.l) = false := by simp [hly2]
            have hb3 : (zy.l.toArray == z.l.toArray) = false := by simp [hly2]
            refine wp_region_held_drew (S := fun w' => Below wr.heap.size wr w') (by kernel_rfl) (Below.refl _ _).drew (fun hHeld => ?_)
            try dsimp only at hHeld
            have bd : Below wr.heap.size wr wr.drew := (Below.refl wr.heap.size wr).drew
            generalize wr.drew = wd at *
            try simp only [Act.put, List.setIfInBounds_toArray, List.set_cons_zero, List.set_cons_succ]
            refine wpAnyH_take (i := 0) (v := ?_) (by simp only [List.getElem?_toArray, List.getElem?_cons_zero]; rfl) (by kernel_rfl) (by kernel_rfl) (by kernel_rfl) (by intro _ _ _ h; exact h) (Or.inl ⟨by rfl, ?_⟩) hHeld ?_
            rotate_left 1
            · intro wq hSw
              try dsimp only at hSw
              go_simp
              try (with_reducible rfl)
            try simp only [Act.put, List.setIfInBounds_toArray, List.set_cons_zero, List.set_cons_succ]
            refine wpAnyH_take (i := 1) (v := ?_) (by simp only [List.getElem?_toArray, List.getElem?_cons_succ, List.getElem?_cons_zero]; rfl) (by kernel_rfl) (by kernel_rfl) (by kernel_rfl) (by intro _ _ _ h; exact h) (Or.inl ⟨by rfl, ?_⟩) hHeld ?_
            rotate_left 1
            · intro wq hSw
              try dsimp only at hSw
              obtain ⟨x0, x1, x2, x3, x4, _⟩ := (Ba.under hSw).five
              go_simp
              try (with_reducible rfl)
            try simp only [Act.put, List.setIfInBounds_toArray, List.set_cons_zero, List.set_cons_succ]
            refine wpAnyH_take (i := 2) (v := ?_) (by simp only [List.getElem?_toArray, List.getElem?_cons_succ, List.getElem?_cons_zero]; rfl) (by kernel_rfl) (by kernel_rfl) (by kernel_rfl) (by intro _ _ _ h; exact h) (Or.inl ⟨by rfl, ?_⟩) hHeld ?_
            rotate_left 1
            · intro wq hSw
              try dsimp only at hSw
              go_simp
              try (with_reducible rfl)
            try simp only [Act.put, List.setIfInBounds_toArray, List.set_cons_zero, List.set_cons_succ]
            refine wpAnyH_take (i := 3) (v := ?_) (by simp only [List.getElem?_toArray, List.getElem?_cons_succ, List.getElem?_cons_zero]; rfl) (by kernel_rfl) (by kernel_rfl) (by kernel_rfl) (by intro _ _ _ h; exact h) (Or.inl ⟨by rfl, ?_⟩) hHeld ?_
            rotate_left 1
            · intro wq hSw
              try dsimp only at hSw
              go_simp
              try (with_reducible rfl)
            try simp only [Act.put, List.setIfInBounds_toArray, List.set_cons_zero, List.set_cons_succ]
            refine wpAnyH_take (i := 4) (v := ?_) (by simp only [List.getElem?_toArray, List.getElem?_cons_succ, List.getElem?_cons_zero]; rfl) (by kernel_rfl) (by kernel_rfl) (by kernel_rfl) (by intro _ _ _ h; exact h) (Or.inl ⟨by rfl, ?_⟩) hHeld ?_
            rotate_left 1
            · intro wq hSw
              try dsimp only at hSw
              go_simp
              try (with_reducible rfl)
            try simp only [Act.put, List.setIfInBounds_toArray, List.set_cons_zero, List.set_cons_succ]
            refine wpAnyH_take (i := 5) (v := ?_) (by simp only [List.getElem?_toArray, List.getElem?_cons_succ, List.getElem?_cons_zero]; rfl) (by kernel_rfl) (by kernel_rfl) (by kernel_rfl) (by intro _ _ _ h; exact h) (Or.inl ⟨by rfl, ?_⟩) hHeld ?_
            rotate_left 1
            · intro wq hSw
              try dsimp only at hSw
              have x0 := (hSw.cell hgx).trans e2
              go_simp
              try (with_reducible rfl)
            try simp only [Act.put, List.setIfInBounds_toArray, List.set_cons_zero, List.set_cons_succ]
            refine wpAnyH_take (i := 6) (v := ?_) (by simp only [List.getElem?_toArray, List.getElem?_cons_succ, List.getElem?_cons_zero]; rfl) (by kernel_rfl) (by kernel_rfl) (by kernel_rfl) (by intro _ _ _ h; exact h) (Or.inl ⟨by rfl, ?_⟩) hHeld ?_
            rotate_left 1
            · intro wq hSw
              try dsimp only at hSw
              have q := qx wq hSw
              go_simp
              try (with_reducible rfl)
            try simp only [Act.put, List.setIfInBounds_toArray, List.set_cons_zero, List.set_cons_succ]
            refine wpAnyH_take (i := 7) (v := ?_) (by simp only [List.getElem?_toArray, List.getElem?_cons_succ, List.getElem?_cons_zero]; rfl) (by kernel_rfl) (by kernel_rfl) (by kernel_rfl) (by intro _ _ _ h; exact h) (Or.inl ⟨by rfl, ?_⟩) hHeld ?_
            rotate_left 1
            · intro wq hSw
              try dsimp only at hSw
              go_simp
              try (with_reducible rfl)
            try simp only [Act.put, List.setIfInBounds_toArray, List.set_cons_zero, List.set_cons_succ]
            refine wpAnyH_take (i := 8) (v := ?_) (by simp only [List.getElem?_toArray, List.getElem?_cons_succ, List.getElem?_cons_zero]; rfl) (by kernel_rfl) (by kernel_rfl) (by kernel_rfl) (by intro _ _ _ h; exact h) (Or.inl ⟨by rfl, ?_⟩) hHeld ?_
            rotate_left 1
            · intro wq hSw
              try dsimp only at hSw
              obtain ⟨x0, x1, x2, x3, x4, _⟩ := (Bd.under hSw).five
              go_simp
              try (with_reducible rfl)
            try simp only [Act.put, List.setIfInBounds_toArray, List.set_cons_zero, List.set_cons_succ]
            refine wpAnyH_take (i := 9) (v := ?_) (by simp only [List.getElem?_toArray, List.getElem?_cons_succ, List.getElem?_cons_zero]; rfl) (by kernel_rfl) (by kernel_rfl) (by kernel_rfl) (by intro _ _ _ h; exact h) (Or.inl ⟨by rfl, ?_⟩) hHeld ?_
            rotate_left 1
            · intro wq hSw
              try dsimp only at hSw
              go_simp
              try (with_reducible rfl)
            try simp only [Act.put, List.setIfInBounds_toArray, List.set_cons_zero, List.set_cons_succ]
            refine wpAnyH_take (i := 10) (v := ?_) (by simp only [List.getElem?_toArray, List.getElem?_cons_succ, List.getElem?_cons_zero]; rfl) (by kernel_rfl) (by kernel_rfl) (by kernel_rfl) (by intro _ _ _ h; exact h) (Or.inl ⟨by rfl, ?_⟩) hHeld ?_
            rotate_left 1
            · intro wq hSw
              try dsimp only at hSw
              go_simp
              try (with_reducible rfl)
            try simp only [Act.put, List.setIfInBounds_toArray, List.set_cons_zero, List.set_cons_succ]
            refine wpAnyH_take (i := 11) (v := ?_) (by simp only [List.getElem?_toArray, List.getElem?_cons_succ, List.getElem?_cons_zero]; rfl) (by kernel_rfl) (by kernel_rfl) (by kernel_rfl) (by intro _ _ _ h; exact h) (Or.inl ⟨by rfl, ?_⟩) hHeld ?_
            rotate_left 1
            · intro wq hSw
              try dsimp only at hSw
              go_simp
              try (with_reducible rfl)
            try simp only [Act.put, List.setIfInBounds_toArray, List.set_cons_zero, List.set_cons_succ]
            refine wpAnyH_take (i := 12) (v := ?_) (by simp only [List.getElem?_toArray, List.getElem?_cons_succ, List.getElem?_cons_zero]; rfl) (by kernel_rfl) (by kernel_rfl) (by kernel_rfl) (by intro _ _ _ h; exact h) (Or.inl ⟨by rfl, ?_⟩) hHeld ?_
            rotate_left 1
            · intro wq hSw
              try dsimp only at hSw
              have x0 := (hSw.cell hg).trans c2
              go_simp
              try (with_reducible rfl)
            try simp only [Act.put, List.setIfInBounds_toArray, List.set_cons_zero, List.set_cons_succ]
            refine wpAnyH_take (i := 13) (v := ?_) (by simp only [List.getElem?_toArray, List.getElem?_cons_succ, List.getElem?_cons_zero]; rfl) (by kernel_rfl) (by kernel_rfl) (by kernel_rfl) (by intro _ _ _ h; exact h) (Or.inl ⟨by rfl, ?_⟩) hHeld ?_
            rotate_left 1
            · intro wq hSw
              try dsimp only at hSw
              have q := qz wq hSw
              go_simp
              try (with_reducible rfl)
            try simp only [Act.put, List.setIfInBounds_toArray, List.set_cons_zero, List.set_cons_succ]
            refine wpAnyH_take (i := 14) (v := ?_) (by simp only [List.getElem?_toArray, List.getElem?_cons_succ, List.getElem?_cons_zero]; rfl) (by kernel_rfl) (by kernel_rfl) (by kernel_rfl) (by intro _ _ _ h; exact h) (Or.inl ⟨by rfl, ?_⟩) hHeld ?_
            rotate_left 1
            · intro wq hSw
              try dsimp only at hSw
              go_simp
              try (with_reducible rfl)
            try simp only [Act.put, List.setIfInBounds_toArray, List.set_cons_zero, List.set_cons_succ]
            refine wpAnyH_take (i := 15) (v := ?_) (by simp only [List.getElem?_toArray, List.getElem?_cons_succ, List.getElem?_cons_zero]; rfl) (by kernel_rfl) (by kernel_rfl) (by kernel_rfl) (by intro _ _ _ h; exact h) (Or.inl ⟨by rfl, ?_⟩) hHeld ?_
            rotate_left 1
            · intro wq hSw
              try dsimp only at hSw
              go_simp
              try (with_reducible rfl)
            try simp only [Act.put, List.setIfInBounds_toArray, List.set_cons_zero, List.set_cons_succ]
            refine wpAnyH_take (i := 16) (v := ?_) (by simp only [List.getElem?_toArray, List.getElem?_cons_succ, List.getElem?_cons_zero]; rfl) (by kernel_rfl) (by kernel_rfl) (by kernel_rfl) (by intro _ _ _ h; exact h) (Or.inl ⟨by rfl, ?_⟩) hHeld ?_
            rotate_left 1
            · intro wq hSw
              try dsimp only at hSw
              go_simp
              try (with_reducible rfl)
            try simp only [Act.put, List.setIfInBounds_toArray, List.set_cons_zero, List.set_cons_succ]
            refine wpAnyH_take (i := 17) (v := ?_) (by simp only [List.getElem?_toArray, List.getElem?_cons_succ, List.getElem?_cons_zero]; rfl) (by kernel_rfl) (by kernel_rfl) (by kernel_rfl) (by intro _ _ _ h; exact h) (Or.inl ⟨by rfl, ?_⟩) hHeld ?_
            rotate_left 1
            · intro wq hSw
              try dsimp only at hSw
              obtain ⟨x0, x1, x2, x3, x4, _⟩ := (Bb.under hSw).five
              go_simp
              try (with_reducible rfl)
            try simp only [Act.put, List.setIfInBounds_toArray, List.set_cons_zero, List.set_cons_succ]
            refine wpAnyH_take (i := 18) (v := ?_) (by simp only [List.getElem?_toArray, List.getElem?_cons_succ, List.getElem?_cons_zero]; rfl) (by kernel_rfl) (by kernel_rfl) (by kernel_rfl) (by intro _ _ _ h; exact h) (Or.inl ⟨by rfl, ?_⟩) hHeld ?_
            rotate_left 1
            · intro wq hSw
              try dsimp only at hSw
              go_simp
              try (with_reducible rfl)
            try simp only [Act.put, List.setIfInBounds_toArray, List.set_cons_zero, List.set_cons_succ]
            refine wpAnyH_take (i := 19) (v := ?_) (by simp only [List.getElem?_toArray, List.getElem?_cons_succ, List.getElem?_cons_zero]; rfl) (by kernel_rfl) (by kernel_rfl) (by kernel_rfl) (by intro _ _ _ h; exact h) (Or.inl ⟨by rfl, ?_⟩) hHeld ?_
            rotate_left 1
            · intro wq hSw
              try dsimp only at hSw
              go_simp
              try (with_reducible rfl)
            try simp only [Act.put, List.setIfInBounds_toArray, List.set_cons_zero, List.set_cons_succ]
            refine wpAnyH_take (i := 20) (v := ?_) (by simp only [List.getElem?_toArray, List.getElem?_cons_succ, List.getElem?_cons_zero]; rfl) (by kernel_rfl) (by kernel_rfl) (by kernel_rfl) (by intro _ _ _ h; exact h) (Or.inl ⟨by rfl, ?_⟩) hHeld ?_
            rotate_left 1
            · intro wq hSw
              try dsimp only at hSw
              go_simp
              try (with_reducible rfl)
            try simp only [Act.put, List.setIfInBounds_toArray, List.set_cons_zero, List.set_cons_succ]
            refine wpAnyH_take (i := 21) (v := ?_) (by simp only [List.getElem?_toArray, List.getElem?_cons_succ, List.getElem?_cons_zero]; rfl) (by kernel_rfl) (by kernel_rfl) (by kernel_rfl) (by intro _ _ _ h; exact h) (Or.inl ⟨by rfl, ?_⟩) hHeld ?_
            rotate_left 1
            · intro wq hSw
              try dsimp only at hSw
              have x0 := (hSw.cell hgy).trans d2
              go_simp
              try (with_reducible rfl)
            try simp only [Act.put, List.setIfInBounds_toArray, List.set_cons_zero, List.set_cons_succ]
            refine wpAnyH_take (i := 22) (v := ?_) (by simp only [List.getElem?_toArray, List.getElem?_cons_succ, List.getElem?_cons_zero]; rfl) (by kernel_rfl) (by kernel_rfl) (by kernel_rfl) (by intro _ _ _ h; exact h) (Or.inl ⟨by rfl, ?_⟩) hHeld ?_
            rotate_left 1
            · intro wq hSw
              try dsimp only at hSw
              have q := qy wq hSw
              go_simp
              try (with_reducible rfl)
            try simp only [Act.put, List.setIfInBounds_toArray, List.set_cons_zero, List.set_cons_succ]
            refine wpAnyH_take (i := 23) (v := ?_) (by simp only [List.getElem?_toArray, List.getElem?_cons_succ, List.getElem?_cons_zero]; rfl) (by kernel_rfl) (by kernel_rfl) (by kernel_rfl) (by intro _ _ _ h; exact h) (Or.inl ⟨by rfl, ?_⟩) hHeld ?_
            rotate_left 1
            · intro wq hSw
              try dsimp only at hSw
              go_simp
              try (with_reducible rfl)
            try simp only [Act.put, List.setIfInBounds_toArray, List.set_cons_zero, List.set_cons_succ]
            refine wpAnyH_take (i := 24) (v := ?_) (by simp only [List.getElem?_toArray, List.getElem?_cons_succ, List.getElem?_cons_zero]; rfl) (by kernel_rfl) (by kernel_rfl) (by kernel_rfl) (by intro _ _ _ h; exact h) (Or.inl ⟨by rfl, ?_⟩) hHeld ?_
            rotate_left 1
            · intro wq hSw
              try dsimp only at hSw
              obtain ⟨x0, x1, x2, x3, x4, _⟩ := (Bd.under hSw).five
              go_simp
              try (with_reducible rfl)
            try simp only [Act.put, List.setIfInBounds_toArray, List.set_cons_zero, List.set_cons_succ]
            refine wpAnyH_take (i := 25) (v := ?_) (by simp only [List.getElem?_toArray, List.getElem?_cons_succ, List.getElem?_cons_zero]; rfl) (by kernel_rfl) (by kernel_rfl) (by kernel_rfl) (by intro _ _ _ h; exact h) (Or.inl ⟨by rfl, ?_⟩) hHeld ?_
            rotate_left 1
            · intro wq hSw
              try dsimp only at hSw
              go_simp
              try (with_reducible rfl)
            try simp only [Act.put, List.setIfInBounds_toArray, List.set_cons_zero, List.set_cons_succ]
            refine wpAnyH_take (i := 26) (v := ?_) (by simp only [List.getElem?_toArray, List.getElem?_cons_succ, List.getElem?_cons_zero]; rfl) (by kernel_rfl) (by kernel_rfl) (by kernel_rfl) (by intro _ _ _ h; exact h) (Or.inl ⟨by rfl, ?_⟩) hHeld ?_
            rotate_left 1
            · intro wq hSw
              try dsimp only at hSw
              go_simp
              try (with_reducible rfl)
            try simp only [Act.put, List.setIfInBounds_toArray, List.set_cons_zero, List.set_cons_succ]
            refine wpAnyH_take (i := 27) (v := ?_) (by simp only [List.getElem?_toArray, List.getElem?_cons_succ, List.getElem?_cons_zero]; rfl) (by kernel_rfl) (by kernel_rfl) (by kernel_rfl) (by intro _ _ _ h; exact h) (Or.inl ⟨by rfl, ?_⟩) hHeld ?_
            rotate_left 1
            · intro wq hSw
              try dsimp only at hSw
              go_simp
              try (with_reducible rfl)
            try simp only [Act.put, List.setIfInBounds_toArray, List.set_cons_zero, List.set_cons_succ]
            refine wpAnyH_take (i := 28) (v := ?_) (by simp only [List.getElem?_toArray, List.getElem?_cons_succ, List.getElem?_cons_zero]; rfl) (by kernel_rfl) (by kernel_rfl) (by kernel_rfl) (by intro _ _ _ h; exact h) (Or.inl ⟨by rfl, ?_⟩) hHeld ?_
            rotate_left 1
            · intro wq hSw
              try dsimp only at hSw
              have x0 := (hSw.cell hg).trans c2
              go_simp
              try (with_reducible rfl)
            try simp only [Act.put, List.setIfInBounds_toArray, List.set_cons_zero, List.set_cons_succ]
            refine wpAnyH_take (i := 29) (v := ?_) (by simp only [List.getElem?_toArray, List.getElem?_cons_succ, List.getElem?_cons_zero]; rfl) (by kernel_rfl) (by kernel_rfl) (by kernel_rfl) (by intro _ _ _ h; exact h) (Or.inl ⟨by rfl, ?_⟩) hHeld ?_
            rotate_left 1
            · intro wq hSw
              try dsimp only at hSw
              have q := qz wq hSw
              go_simp
              try (with_reducible rfl)
            try simp only [Act.put, List.setIfInBounds_toArray, List.set_cons_zero, List.set_cons_succ]
            refine wpAnyH_take (i := 30) (v := ?_) (by simp only [List.getElem?_toArray, List.getElem?_cons_succ, List.getElem?_cons_zero]; rfl) (by kernel_rfl) (by kernel_rfl) (by kernel_rfl) (by intro _ _ _ h; exact h) (Or.inl ⟨by rfl, ?_⟩) hHeld ?_
            rotate_left 1
            · intro wq hSw
              try dsimp only at hSw
              go_simp
              try (with_reducible rfl)
            try simp only [Act.put, List.setIfInBounds_toArray, List.set_cons_zero, List.set_cons_succ]
            refine wpAnyH_take (i := 31) (v := ?_) (by simp only [List.getElem?_toArray, List.getElem?_cons_succ, List.getElem?_cons_zero]; rfl) (by kernel_rfl) (by kernel_rfl) (by kernel_rfl) (by intro _ _ _ h; exact h) (Or.inl ⟨by rfl, ?_⟩) hHeld ?_
            rotate_left 1
            · intro wq hSw
              try dsimp only at hSw
              go_simp
              try (with_reducible rfl)
            try simp only [Act.put, List.setIfInBounds_toArray, List.set_cons_zero, List.set_cons_succ]
            refine wpAnyH_take (i := 32) (v := ?_) (by simp only [List.getElem?_toArray, List.getElem?_cons_succ, List.getElem?_cons_zero]; rfl) (by kernel_rfl) (by kernel_rfl) (by kernel_rfl) (by intro _ _ _ h; exact h) (Or.inl ⟨by rfl, ?_⟩) hHeld ?_
            rotate_left 1
            · intro wq hSw
              try dsimp only at hSw
              go_simp
              try (with_reducible rfl)
            try simp only [Act.put, List.setIfInBounds_toArray, List.set_cons_zero, List.set_cons_succ]
            refine wpAnyH_take (i := 33) (v := ?_) (by simp only [List.getElem?_toArray, List.getElem?_cons_succ, List.getElem?_cons_zero]; rfl) (by kernel_rfl) (by kernel_rfl) (by kernel_rfl) (by intro _ _ _ h; exact h) (Or.inl ⟨by rfl, ?_⟩) hHeld ?_
            rotate_left 1
            · intro wq hSw
              try dsimp only at hSw
              obtain ⟨x0, x1, x2, x3, x4, _⟩ := (Bd.under hSw).five
              go_simp
              try (with_reducible rfl)
            try simp only [Act.put, List.setIfInBounds_toArray, List.set_cons_zero, List.set_cons_succ]
            refine wpAnyH_take (i := 34) (v := ?_) (by simp only [List.getElem?_toArray, List.getElem?_cons_succ, List.getElem?_cons_zero]; rfl) (by kernel_rfl) (by kernel_rfl) (by kernel_rfl) (by intro _ _ _ h; exact h) (Or.inl ⟨by rfl, ?_⟩) hHeld ?_
            rotate_left 1
            · intro wq hSw
              try dsimp only at hSw
              go_simp
              try (with_reducible rfl)
            try simp only [Act.put, List.setIfInBounds_toArray, List.set_cons_zero, List.set_cons_succ]
            refine wpAnyH_take (i := 35) (v := ?_) (by simp only [List.getElem?_toArray, List.getElem?_cons_succ, List.getElem?_cons_zero]; rfl) (by kernel_rfl) (by kernel_rfl) (by kernel_rfl) (by intro _ _ _ h; exact h) (Or.inl ⟨by rfl, ?_⟩) hHeld ?_
            rotate_left 1
            · intro wq hSw
              try dsimp only at hSw
              go_simp
              try (with_reducible rfl)
            try simp only [Act.put, List.setIfInBounds_toArray, List.set_cons_zero, List.set_cons_succ]
            refine wpAnyH_take (i := 36) (v := ?_) (by simp only [List.getElem?_toArray, List.getElem?_cons_succ, List.getElem?_cons_zero]; rfl) (by kernel_rfl) (by kernel_rfl) (by kernel_rfl) (by intro _ _ _ h; exact h) (Or.inl ⟨by rfl, ?_⟩) hHeld ?_
            rotate_left 1
            · intro wq hSw
              try dsimp only at hSw
              go_simp
              try (with_reducible rfl)
            try simp only [Act.put, List.setIfInBounds_toArray, List.set_cons_zero, List.set_cons_succ]
            refine wpAnyH_done (by kernel_rfl) ?_ _
            clear hb hb2 hb3
            go_wp2
            go_roundg g
            case measure => omega
            case rel => exact ⟨j + 1, by have := hj.out; omega, by first | rfl | (simp; done) | (simp; exact wrap64_small (by omega) (by omega)), br.trans (bd.mono br.size)⟩
        · have hDw : Hid ((er == 0) = !dw) := by
            show (er == 0) = !dw
            rw [← her.out]
            cases dw <;> rfl
          obtain ⟨x0, x1, x2, x3, x4, _⟩ := Ba.five
          cases dw
          · obtain rfl : er = 0 := her.out.symm
            go_wp2
            go_ret
            exact ⟨rfl, bb⟩
          · obtain rfl : er = 40 := her.out.symm
            go_wp2
            go_ret
            exact ⟨rfl, bb⟩

theorem DevKeeps_walk (a0_0 : Int) (a0_1 : Option Addr) (len0_1 cap0_1 : Nat) (a0_2 : Int) (a0_3 : Bool) (a0_4 : Int) (a1 : Option Addr) (len1 cap1 : Nat) (z1 : List Int) (w : World) (w0_0 : (Lit.int .i64 a0_0).wf = true) (w0_1 : IsSts [.num .i64, .num .i64, .row .u8, .num .i64] w a0_1 len0_1 cap0_1) (w0_2 : (Lit.int .i64 a0_2).wf = true) (w0_4 : (Lit.int .i64 a0_4).wf = true) (w1 : IsRow .i64 w a1 len1 cap1 z1) :
    Calls Try.prog 6 #[.agg #[.int .i64 a0_0, .slice a0_1 len0_1 cap0_1, .int .i64 a0_2, .bool a0_3, .int .i64 a0_4], .slice a1 len1 cap1] w (AwakePost w) := by
  obtain ⟨zs, z0⟩ := zs_of_sts w0_1
  obtain ⟨ks, s1, hf⟩ := ints_of_row w1
  exact DevKeeps_core a0_0 a0_2 a0_4 a0_3 a0_1 len0_1 cap0_1 zs a1 len1 cap1 ks w z0 s1 hf
end Go.Proofs.Ytnjekhnheihooaa
