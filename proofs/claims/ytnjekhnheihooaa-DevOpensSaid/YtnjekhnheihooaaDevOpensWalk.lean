/-
  DevOpens: the walk (written by gen_devopens.py).
-/
import Derived.Test.YtnjekhnheihooaaDevAwake
import Derived.Test.YtnjekhnheihooaaDevPure
namespace Go.Proofs.Ytnjekhnheihooaa
open Go.RowKit Go.Wag
set_option linter.unusedVariables false

theorem rl5 (size : Int) (dw : Bool) (zs : List Zp) : ruLf size (-1) dw zs = -1 := by
  unfold ruLf
  split <;> simp
theorem rd5 (size : Int) (zs : List Zp) : ruDw size (-1) false zs = false := by simp [ruDw, upF]
theorem new_ok (size : Int) (m : Nat) (hm : 1 ≤ m ∧ m ≤ 64) (hs : 1 ≤ size ∧ size ≤ 1048576) : devF size (List.replicate m zero4) = true ∧ openF (List.replicate m zero4) ≤ 3 := by
  refine ⟨dev_parts.2 ⟨?_, fun z hz => ?_⟩, ?_⟩
  · rw [List.length_replicate, mayF]
    exact decide_eq_true (by omega)
  · rw [List.eq_of_mem_replicate hz, zchk, chkF]
    exact decide_eq_true (by simp only [zero4, List.length_nil]; omega)
  · have : openF (List.replicate m zero4) = 0 := by
      rw [openF, List.countP_eq_zero]
      intro z hz
      rw [List.eq_of_mem_replicate hz]
      decide
    omega
theorem rd_parts (size : Int) (zs : List Zp) (zn at_ a b : Int) (hat : 0 ≤ at_) (ha : 0 ≤ a) (hb : 0 ≤ b) : rdOk size zs zn at_ (a + b) = rdOk size zs zn (at_ + a) b ∧ (rdOk size zs zn (at_ + a) b = true → rdOk size zs zn at_ a = true) ∧ rdF size zs zn at_ (a + b) = rdF size zs zn at_ a ++ rdF size zs zn (at_ + a) b := by
  refine ⟨?_, ?_, ?_⟩
  · rw [Bool.eq_iff_iff]
    simp only [rdOk, Bool.and_eq_true, decide_eq_true_eq]
    constructor
    · rintro ⟨⟨h1, h2⟩, h3⟩
      exact ⟨⟨h1, by omega⟩, by omega⟩
    · rintro ⟨⟨h1, h2⟩, h3⟩
      exact ⟨⟨h1, by omega⟩, by omega⟩
  · simp only [rdOk, Bool.and_eq_true, decide_eq_true_eq]
    rintro ⟨⟨h1, h2⟩, h3⟩
    exact ⟨⟨h1, by omega⟩, by omega⟩
  · unfold rdF
    generalize (zs[zn.toNat]?).elim [] Zp.l = L
    obtain ⟨t, rfl⟩ : ∃ t : Nat, at_ = t := ⟨at_.toNat, by omega⟩
    obtain ⟨x, rfl⟩ : ∃ x : Nat, a = x := ⟨a.toNat, by omega⟩
    obtain ⟨y, rfl⟩ : ∃ y : Nat, b = y := ⟨b.toNat, by omega⟩
    have e1 : ((t : Int) + (x + y)).toNat = t + x + y := by omega
    have e2 : ((t : Int) + x).toNat = t + x := by omega
    have e3 : ((t : Int) + x + y).toNat = t + x + y := by omega
    rw [e1, e2, e3, Int.toNat_natCast]
    have h := (List.take_append_drop x ((L.take (t + x + y)).drop t)).symm
    rw [List.drop_drop] at h
    rw [h]
    congr 1
    rw [List.take_drop, List.take_take]
    congr 2
    omega
theorem bytes_app (l1 l2 : List UInt8) : (⟨l1.toArray⟩ : ByteArray) ++ (⟨l2.toArray⟩ : ByteArray) = ⟨(l1 ++ l2).toArray⟩ := by
  apply ByteArray.ext
  simp

set_option maxRecDepth 100000 in
set_option maxHeartbeats 8000000 in
theorem DevOpens_core (zn size : Int) (a2 : Option Addr) (len cap : Nat) (n at_ a b_ : Int) (w : World) (hS : IsSts [.num .i64, .num .i64, .row .u8] w a2 len cap) (hn0 : 0 ≤ n) (hn1 : n < 256) (hat0 : 0 ≤ at_) (hat1 : at_ < 65536) (ha0 : 0 ≤ a) (ha1 : a < 65536) (hb0 : 0 ≤ b_) (hb1 : b_ < 65536) :
    Calls Try.prog 9 #[.int .i64 zn, .int .i64 size, .slice a2 len cap, .int .u8 n, .int .u16 at_, .int .u16 a, .int .u16 b_] w (AwakePost w) := by
  have bb := Below.refl w.heap.size w
  go_enter Try.func9, Try.ntmps9
  go_wp2_with fail
  have hC := awake4_any w
  refine hC.mono ?_
  clear hC
  rintro e w1 ⟨rfl, ba⟩
  replace bb := bb.trans (ba.mono bb.size)
  go_wp2_with fail
  cases hm : mayF zn size
  · refine (dNew_no zn size w1 hm).mono ?_
    rintro e w2 ⟨rfl, b2⟩
    replace bb := bb.trans (b2.mono bb.size)
    go_wp2
    go_ret
    exact ⟨rfl, bb.alloc bb.size _⟩
  have hm2 : 1 ≤ zn ∧ zn ≤ 64 ∧ 1 ≤ size ∧ size ≤ 1048576 := by simpa only [mayF, decide_eq_true_eq] using hm
  obtain ⟨m, hmz⟩ : ∃ m : Nat, zn.toNat = m := ⟨_, rfl⟩
  have hmm : 1 ≤ m ∧ m ≤ 64 := by omega
  have hdz : Hid (devF size (List.replicate m zero4) = true ∧ openF (List.replicate m zero4) ≤ 3) := new_ok size m hmm hm2.2.2
  have hC := dNew_at zn size (List.replicate m zero4) m w1 hm (by rw [hmz]) List.length_replicate (by omega)
  refine hC.mono ?_
  clear hC
  rintro e w2 ⟨A1, rfl, z1, b1⟩
  replace bb := bb.trans (b1.mono bb.size)
  replace z1 := z1.imp (F' := fun b => b ≠ w2.heap.size) (fun b hb _ => Nat.ne_of_lt hb)
  have hkb := bb.size
  clear hm hm2 hmz
  by_cases h60 : 60 < (len : Int)
  · go_wp2
    go_ret
    exact ⟨rfl, bb.alloc bb.size _⟩
  have h60b : (len : Int) ≤ 60 := by omega
  replace z1 := z1.alloc (.cells #[.int .i64 size, .slice A1 m m, .int .i64 (-1), .bool false, .int .i64 0] 25)
  replace bb := bb.alloc bb.size (.cells #[.int .i64 size, .slice A1 m m, .int .i64 (-1), .bool false, .int .i64 0] 25)
  have Bd := Blk.new w2 #[.int .i64 size, .slice A1 m m, .int .i64 (-1), .bool false, .int .i64 0] 25
  go_wp2_with fail
  generalize (w2.alloc (.cells #[.int .i64 size, .slice A1 m m, .int .i64 (-1), .bool false, .int .i64 0] 25)) = W1 at *
  obtain ⟨kd0, hkd⟩ : ∃ k, w2.heap.size = k := ⟨_, rfl⟩
  simp only [hkd] at Bd z1 hkb ⊢
  clear hkd b1 ba h60
  go_loopg [18] len (fun g i wr => ∃ k : Nat, k + g = len ∧ i = .int .i64 (k : Int) ∧ ∃ (A : Option Addr) (zs : List Zp) (dn : Int), Hid (devF size zs = true ∧ openF zs ≤ 3) ∧ Blk wr kd0 #[.int .i64 size, .slice A m m, .int .i64 (-1), .bool false, .int .i64 dn] 25 ∧ Zs (fun b => b ≠ kd0) wr A m m zs ∧ Below w.heap.size w wr)
  case atStart => exact ⟨0, by omega, rfl, A1, _, 0, hdz, Bd, z1, bb⟩
  case round =>
    clear Bd z1 bb hdz
    obtain ⟨k, hk, rfl, A, zs, dn, hv, Bd, zx, bb⟩ := hrel
    have hdl := Bd.lt
    have hsm : Sm zs := sm_dev hv.out.1
    by_cases hlt : (k : Int) < (len : Int)
    · obtain ⟨g, rfl⟩ : ∃ g, gk = g + 1 := ⟨gk - 1, by omega⟩
      obtain ⟨ab, ao, kd, N, Ab, nb, cb, bs, rfl, hlc, hab', c0', c1', c2', hbs⟩ := cmd_at hS (show k < len by omega)
      have c0 := (bb.cell hab').trans c0'
      have c1 := (bb.cell hab').trans c1'
      have c2 := (bb.cell hab').trans c2'
      replace hbs := hbs.below bb
      have hab : ab < wr.heap.size := Nat.lt_of_lt_of_le hab' bb.size
      by_cases hnb : 300 < (nb : Int)
      · go_wp2
        go_ret
        exact ⟨rfl, bb⟩
      have hnb2 : (nb : Int) ≤ 300 := by omega
      obtain ⟨Dn, hDn⟩ : ∃ x, Hid (ruDn size (-1) dn false zs = x) := ⟨_, rfl⟩
      obtain ⟨Zz, hZz⟩ : ∃ x, Hid (ruZs size (-1) false zs kd N bs = x) := ⟨_, rfl⟩
      obtain ⟨Er, hEr⟩ : ∃ x, Hid (ruEr size (-1) false zs kd N bs = x) := ⟨_, rfl⟩
      have hv2 : Hid (devF size Zz = true ∧ openF Zz ≤ 3) := by
        show _ ∧ _
        rw [← hZz.out]
        exact ok_ru (-1) false kd N bs hv.out.1 hv.out.2
      replace hk : Hid _ := hk
      go_wp2_with fail
      refine region_join (α := Nat → Option Addr → Act) (R := fun T a w' => ∃ kv A5, a = T kv A5 ∧ Blk w' kv #[.int .i64 size, .slice A5 m m, .int .i64 (-1), .bool false, .int .i64 Dn] 25 ∧ Zs (fun b => wr.heap.size ≤ b ∧ b ≠ kv) w' A5 m m Zz ∧ wr.heap.size ≤ kv ∧ Below wr.heap.size wr w') ?TY ?bodyY ?restY
      case bodyY =>
        refine wp_region_held_drew (S := fun w' => Below wr.heap.size wr w') (by kernel_rfl) (Below.refl _ _).drew (fun hHeld => ?_)
        have b := hHeld
        generalize wr.drew = wd at *
        try simp only [Act.put, List.setIfInBounds_toArray, List.set_cons_zero, List.set_cons_succ]
        refine wpAnyH_take (i := 0) (v := ?_) (by simp only [List.getElem?_toArray, List.getElem?_cons_zero]; rfl) (by kernel_rfl) (by kernel_rfl) (by kernel_rfl) (by intro _ _ _ h; exact nomatch h.1) (Or.inl ⟨by rfl, ?_⟩) hHeld ?_
        rotate_left 1
        · intro wq hSw
          try dsimp only at hSw
          obtain ⟨x0, x1, x2, x3, x4, _⟩ := (Bd.under hSw).five
          go_simp
          try (with_reducible rfl)
        try simp only [Act.put, List.setIfInBounds_toArray, List.set_cons_zero, List.set_cons_succ]
        refine wpAnyH_take (i := 1) (v := ?_) (by simp only [List.getElem?_toArray, List.getElem?_cons_succ, List.getElem?_cons_zero]; rfl) (by kernel_rfl) (by kernel_rfl) (by kernel_rfl) (by intro _ _ _ h; exact nomatch h.1) (Or.inl ⟨by rfl, ?_⟩) hHeld ?_
        rotate_left 1
        · intro wq hSw
          try dsimp only at hSw
          go_simp
          try (with_reducible rfl)
        try simp only [Act.put, List.setIfInBounds_toArray, List.set_cons_zero, List.set_cons_succ]
        refine wpAnyH_take (i := 2) (v := ?_) (by simp only [List.getElem?_toArray, List.getElem?_cons_succ, List.getElem?_cons_zero]; rfl) (by kernel_rfl) (by kernel_rfl) (by kernel_rfl) (by intro _ _ _ h; exact nomatch h.1) (Or.inl ⟨by rfl, ?_⟩) hHeld ?_
        rotate_left 1
        · intro wq hSw
          try dsimp only at hSw
          go_simp
          try (with_reducible rfl)
        try simp only [Act.put, List.setIfInBounds_toArray, List.set_cons_zero, List.set_cons_succ]
        refine wpAnyH_take (i := 3) (v := ?_) (by simp only [List.getElem?_toArray, List.getElem?_cons_succ, List.getElem?_cons_zero]; rfl) (by kernel_rfl) (by kernel_rfl) (by kernel_rfl) (by intro _ _ _ h; exact nomatch h.1) (Or.inl ⟨by rfl, ?_⟩) hHeld ?_
        rotate_left 1
        · intro wq hSw
          try dsimp only at hSw
          go_simp
          try (with_reducible rfl)
        try simp only [Act.put, List.setIfInBounds_toArray, List.set_cons_zero, List.set_cons_succ]
        refine wpAnyH_take (i := 4) (v := ?_) (by simp only [List.getElem?_toArray, List.getElem?_cons_succ, List.getElem?_cons_zero]; rfl) (by kernel_rfl) (by kernel_rfl) (by kernel_rfl) (by intro _ _ _ h; exact nomatch h.1) (Or.inl ⟨by rfl, ?_⟩) hHeld ?_
        rotate_left 1
        · intro wq hSw
          try dsimp only at hSw
          have y0 := (hSw.cell hab).trans c0
          have y1 := (hSw.cell hab).trans c1
          have y2 := (hSw.cell hab).trans c2
          go_simp
          try (with_reducible rfl)
        try simp only [Act.put, List.setIfInBounds_toArray, List.set_cons_zero, List.set_cons_succ]
        refine wpAnyH_ready (rs := [5, 9]) (by kernel_rfl) (by simp) ?_
        refine AllReadyH.cons (by simp only [List.getElem?_toArray, List.getElem?_cons_succ, List.getElem?_cons_zero]; rfl) (fun K hK => ?_) (AllReadyH.cons (by simp only [List.getElem?_toArray, List.getElem?_cons_succ, List.getElem?_cons_zero]; rfl) (fun K hK => ?_) AllReadyH.nil)
        · skip
          have hC := dDo_at size (-1) dn false A m m zs kd N Ab nb cb bs (-1) Dn false Zz Er wd (zx.below b) hsm (hbs.below b) (by omega) (by decide) (rl5 size false zs) hDn.out (rd5 size zs) hZz.out hEr.out
          go_simp
          refine hC.mono ?_
          rintro e w_5_1 ⟨A5, rfl, Y, bC⟩
          go_wp2_with fail
          have hbs := b.size
          replace Y := Y.imp (F' := fun x => wr.heap.size ≤ x) (fun x _ hx => by omega)
          clear hbs
          replace b := b.trans (bC.mono b.size)
          clear hC bC
          refine hK.out _ _ b (fun hHeld => ?_)
          clear hK K
          try simp only [Act.put, List.setIfInBounds_toArray, List.set_cons_zero, List.set_cons_succ]
          refine wpAnyH_take (i := 6) (v := ?_) (by simp only [List.getElem?_toArray, List.getElem?_cons_succ, List.getElem?_cons_zero]; rfl) (by kernel_rfl) (by kernel_rfl) (by kernel_rfl) (by intro _ _ _ h; exact nomatch h.1) (Or.inl ⟨by rfl, ?_⟩) hHeld ?_
          rotate_left 1
          · intro wq hSw
            try dsimp only at hSw
            go_simp
            try (with_reducible rfl)
          try simp only [Act.put, List.setIfInBounds_toArray, List.set_cons_zero, List.set_cons_succ]
          refine wpAnyH_take (i := 7) (v := ?_) (by simp only [List.getElem?_toArray, List.getElem?_cons_succ, List.getElem?_cons_zero]; rfl) (by kernel_rfl) (by kernel_rfl) (by kernel_rfl) (by intro _ _ _ h; exact nomatch h.1) (Or.inl ⟨by rfl, ?_⟩) hHeld ?_
          rotate_left 1
          · intro wq hSw
            try dsimp only at hSw
            go_simp
            try (with_reducible rfl)
          try simp only [Act.put, List.setIfInBounds_toArray, List.set_cons_zero, List.set_cons_succ]
          refine wpAnyH_take (i := 8) (v := ?_) (by simp only [List.getElem?_toArray, List.getElem?_cons_succ, List.getElem?_cons_zero]; rfl) (by kernel_rfl) (by kernel_rfl) (by kernel_rfl) (by intro _ _ _ h; exact nomatch h.1) (Or.inl ⟨by rfl, ?_⟩) hHeld ?_
          rotate_left 1
          · intro wq hSw
            try dsimp only at hSw
            go_simp
            try (with_reducible rfl)
          try simp only [Act.put, List.setIfInBounds_toArray, List.set_cons_zero, List.set_cons_succ]
          refine wpAnyH_ready (rs := [9]) (by kernel_rfl) (by simp) ?_
          refine AllReadyH.cons (by simp only [List.getElem?_toArray, List.getElem?_cons_succ, List.getElem?_cons_zero]; rfl) (fun K hK => ?_) AllReadyH.nil
          obtain ⟨kv, hkv⟩ : ∃ k, w_5_1.heap.size = k := ⟨_, rfl⟩
          go_simp
          try simp only [hkv]
          have V := Blk.new w_5_1 #[.int .i64 0, .slice none 0 0, .int .i64 0, .bool false, .int .i64 0] 25
          rw [hkv] at V
          have hcv : wr.heap.size ≤ kv := by rw [← hkv]; exact b.size
          replace Y := (Y.imp (F' := fun x => wr.heap.size ≤ x ∧ x ≠ kv) (fun x hx hf => ⟨hf, by omega⟩)).alloc (.cells #[.int .i64 0, .slice none 0 0, .int .i64 0, .bool false, .int .i64 0] 25)
          replace b := b.alloc b.size (.cells #[.int .i64 0, .slice none 0 0, .int .i64 0, .bool false, .int .i64 0] 25)
          generalize w_5_1.alloc (.cells #[.int .i64 0, .slice none 0 0, .int .i64 0, .bool false, .int .i64 0] 25) = w_9_2 at *
          refine hK.out _ _ b (fun hHeld => ?_)
          clear hK K
          try simp only [Act.put, List.setIfInBounds_toArray, List.set_cons_zero, List.set_cons_succ]
          refine wpAnyH_ready (rs := [10]) (by kernel_rfl) (by simp) ?_
          refine AllReadyH.cons (by simp only [List.getElem?_toArray, List.getElem?_cons_succ, List.getElem?_cons_zero]; rfl) (fun K hK => ?_) AllReadyH.nil
          obtain ⟨q0, q1, q2, q3, q4, i0', i1', i2', i3', i4'⟩ := V.five
          go_simp
          have V2 := (((((V.set 0 (.int .i64 size)).set 1 (.slice A5 m m)).set 2 (.int .i64 (-1))).set 3 (.bool false)).set 4 (.int .i64 Dn))
          simp only [List.setIfInBounds_toArray, List.set_cons_zero, List.set_cons_succ] at V2
          have Y2 := (((((Y.far (a := ⟨kv, 0, none⟩) (fun h => h.2 rfl) (.int .i64 size)).far (a := ⟨kv, 1, none⟩) (fun h => h.2 rfl) (.slice A5 m m)).far (a := ⟨kv, 2, none⟩) (fun h => h.2 rfl) (.int .i64 (-1))).far (a := ⟨kv, 3, none⟩) (fun h => h.2 rfl) (.bool false)).far (a := ⟨kv, 4, none⟩) (fun h => h.2 rfl) (.int .i64 Dn))
          have b2 := (((((b.setCell (p := ⟨kv, 0, none⟩) hcv (.int .i64 size)).setCell (p := ⟨kv, 1, none⟩) hcv (.slice A5 m m)).setCell (p := ⟨kv, 2, none⟩) hcv (.int .i64 (-1))).setCell (p := ⟨kv, 3, none⟩) hcv (.bool false)).setCell (p := ⟨kv, 4, none⟩) hcv (.int .i64 Dn))
          clear q0 q1 q2 q3 q4 i0' i1' i2' i3' i4'
          clear V Y b
          generalize (((((w_9_2.setCell ⟨kv, 0, none⟩ (.int .i64 size)).setCell ⟨kv, 1, none⟩ (.slice A5 m m)).setCell ⟨kv, 2, none⟩ (.int .i64 (-1))).setCell ⟨kv, 3, none⟩ (.bool false)).setCell ⟨kv, 4, none⟩ (.int .i64 Dn)) = w_10_3 at *
          have V := V2
          have Y := Y2
          have b := b2
          clear V2 Y2 b2
          refine hK.out _ _ b (fun hHeld => ?_)
          clear hK K
          try simp only [Act.put, List.setIfInBounds_toArray, List.set_cons_zero, List.set_cons_succ]
          refine wpAnyH_take (i := 11) (v := ?_) (by simp only [List.getElem?_toArray, List.getElem?_cons_succ, List.getElem?_cons_zero]; rfl) (by kernel_rfl) (by kernel_rfl) (by kernel_rfl) (by intro _ _ _ h; exact nomatch h.1) (Or.inl ⟨by rfl, ?_⟩) hHeld ?_
          rotate_left 1
          · intro wq hSw
            try dsimp only at hSw
            go_simp
            try (with_reducible rfl)
          try simp only [Act.put, List.setIfInBounds_toArray, List.set_cons_zero, List.set_cons_succ]
          refine wpAnyH_done (by kernel_rfl) ?_ _
          refine ⟨rfl, kv, A5, ?_, V, Y, hcv, b⟩
          with_reducible rfl
        · skip
          obtain ⟨kv, hkv⟩ : ∃ k, wd.heap.size = k := ⟨_, rfl⟩
          go_simp
          try simp only [hkv]
          have V := Blk.new wd #[.int .i64 0, .slice none 0 0, .int .i64 0, .bool false, .int .i64 0] 25
          rw [hkv] at V
          have hcv : wr.heap.size ≤ kv := by rw [← hkv]; exact b.size
          replace b := b.alloc b.size (.cells #[.int .i64 0, .slice none 0 0, .int .i64 0, .bool false, .int .i64 0] 25)
          generalize wd.alloc (.cells #[.int .i64 0, .slice none 0 0, .int .i64 0, .bool false, .int .i64 0] 25) = w_9_1 at *
          refine hK.out _ _ b (fun hHeld => ?_)
          clear hK K
          try simp only [Act.put, List.setIfInBounds_toArray, List.set_cons_zero, List.set_cons_succ]
          refine wpAnyH_ready (rs := [5]) (by kernel_rfl) (by simp) ?_
          refine AllReadyH.cons (by simp only [List.getElem?_toArray, List.getElem?_cons_succ, List.getElem?_cons_zero]; rfl) (fun K hK => ?_) AllReadyH.nil
          have hC := dDo_at size (-1) dn false A m m zs kd N Ab nb cb bs (-1) Dn false Zz Er w_9_1 (zx.below b) hsm (hbs.below b) (by omega) (by decide) (rl5 size false zs) hDn.out (rd5 size zs) hZz.out hEr.out
          go_simp
          refine hC.mono ?_
          rintro e w_5_2 ⟨A5, rfl, Y, bC⟩
          go_wp2_with fail
          have hbs := b.size
          have hvl := V.lt
          replace Y := Y.imp (F' := fun x => wr.heap.size ≤ x ∧ x ≠ kv) (fun x _ hx => ⟨by omega, by omega⟩)
          clear hbs hvl
          replace V := V.under bC
          replace b := b.trans (bC.mono b.size)
          clear hC bC
          refine hK.out _ _ b (fun hHeld => ?_)
          clear hK K
          try simp only [Act.put, List.setIfInBounds_toArray, List.set_cons_zero, List.set_cons_succ]
          refine wpAnyH_take (i := 6) (v := ?_) (by simp only [List.getElem?_toArray, List.getElem?_cons_succ, List.getElem?_cons_zero]; rfl) (by kernel_rfl) (by kernel_rfl) (by kernel_rfl) (by intro _ _ _ h; exact nomatch h.1) (Or.inl ⟨by rfl, ?_⟩) hHeld ?_
          rotate_left 1
          · intro wq hSw
            try dsimp only at hSw
            go_simp
            try (with_reducible rfl)
          try simp only [Act.put, List.setIfInBounds_toArray, List.set_cons_zero, List.set_cons_succ]
          refine wpAnyH_take (i := 7) (v := ?_) (by simp only [List.getElem?_toArray, List.getElem?_cons_succ, List.getElem?_cons_zero]; rfl) (by kernel_rfl) (by kernel_rfl) (by kernel_rfl) (by intro _ _ _ h; exact nomatch h.1) (Or.inl ⟨by rfl, ?_⟩) hHeld ?_
          rotate_left 1
          · intro wq hSw
            try dsimp only at hSw
            go_simp
            try (with_reducible rfl)
          try simp only [Act.put, List.setIfInBounds_toArray, List.set_cons_zero, List.set_cons_succ]
          refine wpAnyH_take (i := 8) (v := ?_) (by simp only [List.getElem?_toArray, List.getElem?_cons_succ, List.getElem?_cons_zero]; rfl) (by kernel_rfl) (by kernel_rfl) (by kernel_rfl) (by intro _ _ _ h; exact nomatch h.1) (Or.inl ⟨by rfl, ?_⟩) hHeld ?_
          rotate_left 1
          · intro wq hSw
            try dsimp only at hSw
            go_simp
            try (with_reducible rfl)
          try simp only [Act.put, List.setIfInBounds_toArray, List.set_cons_zero, List.set_cons_succ]
          refine wpAnyH_ready (rs := [10]) (by kernel_rfl) (by simp) ?_
          refine AllReadyH.cons (by simp only [List.getElem?_toArray, List.getElem?_cons_succ, List.getElem?_cons_zero]; rfl) (fun K hK => ?_) AllReadyH.nil
          obtain ⟨q0, q1, q2, q3, q4, i0', i1', i2', i3', i4'⟩ := V.five
          go_simp
          have V2 := (((((V.set 0 (.int .i64 size)).set 1 (.slice A5 m m)).set 2 (.int .i64 (-1))).set 3 (.bool false)).set 4 (.int .i64 Dn))
          simp only [List.setIfInBounds_toArray, List.set_cons_zero, List.set_cons_succ] at V2
          have Y2 := (((((Y.far (a := ⟨kv, 0, none⟩) (fun h => h.2 rfl) (.int .i64 size)).far (a := ⟨kv, 1, none⟩) (fun h => h.2 rfl) (.slice A5 m m)).far (a := ⟨kv, 2, none⟩) (fun h => h.2 rfl) (.int .i64 (-1))).far (a := ⟨kv, 3, none⟩) (fun h => h.2 rfl) (.bool false)).far (a := ⟨kv, 4, none⟩) (fun h => h.2 rfl) (.int .i64 Dn))
          have b2 := (((((b.setCell (p := ⟨kv, 0, none⟩) hcv (.int .i64 size)).setCell (p := ⟨kv, 1, none⟩) hcv (.slice A5 m m)).setCell (p := ⟨kv, 2, none⟩) hcv (.int .i64 (-1))).setCell (p := ⟨kv, 3, none⟩) hcv (.bool false)).setCell (p := ⟨kv, 4, none⟩) hcv (.int .i64 Dn))
          clear q0 q1 q2 q3 q4 i0' i1' i2' i3' i4'
          clear V Y b
          generalize (((((w_5_2.setCell ⟨kv, 0, none⟩ (.int .i64 size)).setCell ⟨kv, 1, none⟩ (.slice A5 m m)).setCell ⟨kv, 2, none⟩ (.int .i64 (-1))).setCell ⟨kv, 3, none⟩ (.bool false)).setCell ⟨kv, 4, none⟩ (.int .i64 Dn)) = w_10_3 at *
          have V := V2
          have Y := Y2
          have b := b2
          clear V2 Y2 b2
          refine hK.out _ _ b (fun hHeld => ?_)
          clear hK K
          try simp only [Act.put, List.setIfInBounds_toArray, List.set_cons_zero, List.set_cons_succ]
          refine wpAnyH_take (i := 11) (v := ?_) (by simp only [List.getElem?_toArray, List.getElem?_cons_succ, List.getElem?_cons_zero]; rfl) (by kernel_rfl) (by kernel_rfl) (by kernel_rfl) (by intro _ _ _ h; exact nomatch h.1) (Or.inl ⟨by rfl, ?_⟩) hHeld ?_
          rotate_left 1
          · intro wq hSw
            try dsimp only at hSw
            go_simp
            try (with_reducible rfl)
          try simp only [Act.put, List.setIfInBounds_toArray, List.set_cons_zero, List.set_cons_succ]
          refine wpAnyH_done (by kernel_rfl) ?_ _
          refine ⟨rfl, kv, A5, ?_, V, Y, hcv, b⟩
          with_reducible rfl
      rintro a w5 ⟨kv, A5, rfl, V, Y, hkv, b5⟩
      try dsimp only
      have hsz := b5.size
      replace Y := Y.imp (F' := fun b => b ≠ kd0) (fun b hb hf e => by omega)
      replace Bd := Bd.under b5
      replace bb := bb.trans (b5.mono bb.size)
      clear c0 c1 c2 c0' c1' c2' zx hbs b5
      obtain ⟨oo, hoo⟩ : ∃ x : Int, Hid ((openF Zz : Int) = x) := ⟨_, rfl⟩
      have ho3 : oo ≤ 3 := by rw [← hoo.out]; have := hv2.out.2; omega
      obtain ⟨Vq0, Vq1, Vq2, Vq3, Vq4, Vr0, Vr1, Vr2, Vr3, Vr4⟩ := V.five
      have Vl := V.lt
      go_wp2_with fail
      clear Vq0 Vq1 Vq2 Vq3 Vq4 Vr0 Vr1 Vr2 Vr3 Vr4
      have hC := dOpen_at size (-1) Dn false A5 m m Zz oo w5 Y hoo.out
      refine hC.mono ?_
      clear hC
      rintro e w6 ⟨rfl, b6⟩
      replace V := V.under b6
      replace Bd := Bd.under b6
      replace Y := Y.below b6
      replace bb := bb.trans (b6.mono bb.size)
      obtain ⟨Vq0, Vq1, Vq2, Vq3, Vq4, Vr0, Vr1, Vr2, Vr3, Vr4⟩ := V.five
      have Vl := V.lt
      go_wp2_with fail
      clear Vq0 Vq1 Vq2 Vq3 Vq4 Vr0 Vr1 Vr2 Vr3 Vr4
      have hC := dCheck_at size (-1) Dn false A5 m m Zz true w6 Y hv2.out.1
      refine hC.mono ?_
      clear hC
      rintro e w7 ⟨rfl, b7⟩
      replace V := V.under b7
      replace Bd := Bd.under b7
      replace Y := Y.below b7
      replace bb := bb.trans (b7.mono bb.size)
      obtain ⟨Vq0, Vq1, Vq2, Vq3, Vq4, Vr0, Vr1, Vr2, Vr3, Vr4⟩ := V.five
      have Vl := V.lt
      obtain ⟨Bdq0, Bdq1, Bdq2, Bdq3, Bdq4, Bdr0, Bdr1, Bdr2, Bdr3, Bdr4⟩ := Bd.five
      have Bdl := Bd.lt
      go_wp2
      go_roundg g
      case measure => omega
      case rel =>
        refine ⟨k + 1, by have := hk.out; omega, by first | rfl | (simp; done), A5, Zz, Dn, hv2, ((((Bd.set 0 _).set 1 _).set 2 _).set 3 _).set 4 _, ?_, ((((bb.setCell hkb _).setCell hkb _).setCell hkb _).setCell hkb _).setCell hkb _⟩
        exact ((((Y.far (a := ⟨kd0, 0, none⟩) (fun h => h rfl) _).far (a := ⟨kd0, 1, none⟩) (fun h => h rfl) _).far (a := ⟨kd0, 2, none⟩) (fun h => h rfl) _).far (a := ⟨kd0, 3, none⟩) (fun h => h rfl) _).far (a := ⟨kd0, 4, none⟩) (fun h => h rfl) _
    · clear hk
      have hlen := zx.len
      obtain ⟨p1, p2, p3⟩ := rd_parts size zs n at_ a b_ hat0 ha0 hb0
      cases ho : rdOk size zs n (at_ + a) b_
      · cases ho1 : rdOk size zs n at_ a
        · have ho3 : rdOk size zs n at_ (a + b_) = false := by rw [p1]; exact ho
          obtain ⟨Bdq0, Bdq1, Bdq2, Bdq3, Bdq4, Bdr0, Bdr1, Bdr2, Bdr3, Bdr4⟩ := Bd.five
          have Bdl := Bd.lt
          go_wp2_with fail
          clear Bdq0 Bdq1 Bdq2 Bdq3 Bdq4 Bdr0 Bdr1 Bdr2 Bdr3 Bdr4
          have hC := dRead_no size (-1) dn false A m m zs n at_ a wr zx hsm (by omega) (by omega) ho1
          refine hC.mono ?_
          clear hC
          rintro e w6 ⟨rfl, b6⟩
          replace Bd := Bd.under b6
          replace zx := zx.below b6
          replace bb := bb.trans (b6.mono bb.size)
          obtain ⟨Bdq0, Bdq1, Bdq2, Bdq3, Bdq4, Bdr0, Bdr1, Bdr2, Bdr3, Bdr4⟩ := Bd.five
          have Bdl := Bd.lt
          go_wp2_with fail
          clear Bdq0 Bdq1 Bdq2 Bdq3 Bdq4 Bdr0 Bdr1 Bdr2 Bdr3 Bdr4
          have hC := dRead_no size (-1) dn false A m m zs n (at_ + a) b_ w6 zx hsm (by omega) (by omega) ho
          refine hC.mono ?_
          clear hC
          rintro e w7 ⟨rfl, b7⟩
          replace Bd := Bd.under b7
          replace zx := zx.below b7
          replace bb := bb.trans (b7.mono bb.size)
          obtain ⟨Bdq0, Bdq1, Bdq2, Bdq3, Bdq4, Bdr0, Bdr1, Bdr2, Bdr3, Bdr4⟩ := Bd.five
          have Bdl := Bd.lt
          go_wp2_with fail
          clear Bdq0 Bdq1 Bdq2 Bdq3 Bdq4 Bdr0 Bdr1 Bdr2 Bdr3 Bdr4
          have hC := dRead_no size (-1) dn false A m m zs n at_ (a + b_) w7 zx hsm (by omega) (by omega) ho3
          refine hC.mono ?_
          clear hC
          rintro e w8 ⟨rfl, b8⟩
          replace Bd := Bd.under b8
          replace zx := zx.below b8
          replace bb := bb.trans (b8.mono bb.size)
          go_wp2
          go_ret
          exact ⟨rfl, bb⟩
        · have ho3 : rdOk size zs n at_ (a + b_) = false := by rw [p1]; exact ho
          obtain ⟨l1, hl1⟩ : ∃ x, Hid (rdF size zs n at_ a = x) := ⟨_, rfl⟩
          obtain ⟨k1, hk1⟩ : ∃ x, Hid (l1.length = x) := ⟨_, rfl⟩
          obtain ⟨Bdq0, Bdq1, Bdq2, Bdq3, Bdq4, Bdr0, Bdr1, Bdr2, Bdr3, Bdr4⟩ := Bd.five
          have Bdl := Bd.lt
          go_wp2_with fail
          clear Bdq0 Bdq1 Bdq2 Bdq3 Bdq4 Bdr0 Bdr1 Bdr2 Bdr3 Bdr4
          have hC := dRead_ok size (-1) dn false A m m zs n at_ a l1 k1 wr zx hsm (by omega) (by omega) ho1 hl1.out hk1.out
          refine hC.mono ?_
          clear hC
          rintro e w6 ⟨Ax, cx, rfl, Nx, b6⟩
          replace Bd := Bd.under b6
          replace zx := zx.below b6
          replace bb := bb.trans (b6.mono bb.size)
          have sx := Nx.sl
          obtain ⟨Bdq0, Bdq1, Bdq2, Bdq3, Bdq4, Bdr0, Bdr1, Bdr2, Bdr3, Bdr4⟩ := Bd.five
          have Bdl := Bd.lt
          go_wp2_with fail
          clear Bdq0 Bdq1 Bdq2 Bdq3 Bdq4 Bdr0 Bdr1 Bdr2 Bdr3 Bdr4
          have hC := dRead_no size (-1) dn false A m m zs n (at_ + a) b_ w6 zx hsm (by omega) (by omega) ho
          refine hC.mono ?_
          clear hC
          rintro e w7 ⟨rfl, b7⟩
          replace Bd := Bd.under b7
          replace zx := zx.below b7
          replace sx := sx.below b7
          replace bb := bb.trans (b7.mono bb.size)
          obtain ⟨Bdq0, Bdq1, Bdq2, Bdq3, Bdq4, Bdr0, Bdr1, Bdr2, Bdr3, Bdr4⟩ := Bd.five
          have Bdl := Bd.lt
          go_wp2_with fail
          clear Bdq0 Bdq1 Bdq2 Bdq3 Bdq4 Bdr0 Bdr1 Bdr2 Bdr3 Bdr4
          have hC := dRead_no size (-1) dn false A m m zs n at_ (a + b_) w7 zx hsm (by omega) (by omega) ho3
          refine hC.mono ?_
          clear hC
          rintro e w8 ⟨rfl, b8⟩
          replace Bd := Bd.under b8
          replace zx := zx.below b8
          replace sx := sx.below b8
          replace bb := bb.trans (b8.mono bb.size)
          go_wp2
          go_ret
          exact ⟨rfl, bb⟩
      · have ho1 := p2 ho
        have ho3 : rdOk size zs n at_ (a + b_) = true := by rw [p1]; exact ho
        obtain ⟨l1, hl1⟩ : ∃ x, Hid (rdF size zs n at_ a = x) := ⟨_, rfl⟩
        obtain ⟨k1, hk1⟩ : ∃ x, Hid (l1.length = x) := ⟨_, rfl⟩
        obtain ⟨l2, hl2⟩ : ∃ x, Hid (rdF size zs n (at_ + a) b_ = x) := ⟨_, rfl⟩
        obtain ⟨k2, hk2⟩ : ∃ x, Hid (l2.length = x) := ⟨_, rfl⟩
        obtain ⟨k3, hk3⟩ : ∃ x, Hid ((l1 ++ l2).length = x) := ⟨_, rfl⟩
        have hl3 : Hid (rdF size zs n at_ (a + b_) = l1 ++ l2) := by
          show _ = _
          rw [← hl1.out, ← hl2.out]
          exact p3
        obtain ⟨Bdq0, Bdq1, Bdq2, Bdq3, Bdq4, Bdr0, Bdr1, Bdr2, Bdr3, Bdr4⟩ := Bd.five
        have Bdl := Bd.lt
        go_wp2_with fail
        clear Bdq0 Bdq1 Bdq2 Bdq3 Bdq4 Bdr0 Bdr1 Bdr2 Bdr3 Bdr4
        have hC := dRead_ok size (-1) dn false A m m zs n at_ a l1 k1 wr zx hsm (by omega) (by omega) ho1 hl1.out hk1.out
        refine hC.mono ?_
        clear hC
        rintro e w6 ⟨Ax, cx, rfl, Nx, b6⟩
        replace Bd := Bd.under b6
        replace zx := zx.below b6
        replace bb := bb.trans (b6.mono bb.size)
        have sx := Nx.sl
        obtain ⟨Bdq0, Bdq1, Bdq2, Bdq3, Bdq4, Bdr0, Bdr1, Bdr2, Bdr3, Bdr4⟩ := Bd.five
        have Bdl := Bd.lt
        go_wp2_with fail
        clear Bdq0 Bdq1 Bdq2 Bdq3 Bdq4 Bdr0 Bdr1 Bdr2 Bdr3 Bdr4
        have hC := dRead_ok size (-1) dn false A m m zs n (at_ + a) b_ l2 k2 w6 zx hsm (by omega) (by omega) ho hl2.out hk2.out
        refine hC.mono ?_
        clear hC
        rintro e w7 ⟨Ay, cy, rfl, Ny, b7⟩
        replace Bd := Bd.under b7
        replace zx := zx.below b7
        replace sx := sx.below b7
        replace bb := bb.trans (b7.mono bb.size)
        have sy := Ny.sl
        obtain ⟨Bdq0, Bdq1, Bdq2, Bdq3, Bdq4, Bdr0, Bdr1, Bdr2, Bdr3, Bdr4⟩ := Bd.five
        have Bdl := Bd.lt
        go_wp2_with fail
        clear Bdq0 Bdq1 Bdq2 Bdq3 Bdq4 Bdr0 Bdr1 Bdr2 Bdr3 Bdr4
        have hC := dRead_ok size (-1) dn false A m m zs n at_ (a + b_) (l1 ++ l2) k3 w7 zx hsm (by omega) (by omega) ho3 hl3.out hk3.out
        refine hC.mono ?_
        clear hC
        rintro e w8 ⟨Az, cz, rfl, Nz, b8⟩
        replace Bd := Bd.under b8
        replace zx := zx.below b8
        replace sx := sx.below b8
        replace sy := sy.below b8
        replace bb := bb.trans (b8.mono bb.size)
        have sz := Nz.sl
        have qx := str_of sx
        have qy := str_of sy
        have qz := str_of sz
        have happ := bytes_app l1 l2
        have hlim : ¬ 9223372036854775807 < l1.length + l2.length := by
          have h1 := sz.len8
          have h2 := sz.cap
          have h3 := sz.big
          rw [List.length_append] at h1
          omega
        go_wp2
        go_ret
        exact ⟨rfl, bb⟩

theorem DevOpens_walk (a0 : Int) (a1 : Int) (a2 : Option Addr) (len2 cap2 : Nat) (a3 : Int) (a4 : Int) (a5 : Int) (a6 : Int) (w : World) (w0 : (Lit.int .i64 a0).wf = true) (w1 : (Lit.int .i64 a1).wf = true) (w2 : IsSts [.num .i64, .num .i64, .row .u8] w a2 len2 cap2) (w3 : (Lit.int .u8 a3).wf = true) (w4 : (Lit.int .u16 a4).wf = true) (w5 : (Lit.int .u16 a5).wf = true) (w6 : (Lit.int .u16 a6).wf = true) :
    Calls Try.prog 9 #[.int .i64 a0, .int .i64 a1, .slice a2 len2 cap2, .int .u8 a3, .int .u16 a4, .int .u16 a5, .int .u16 a6] w (AwakePost w) := by
  have h3 := wf_u8 w3
  have h4 := bounds_u16 w4
  have h5 := bounds_u16 w5
  have h6 := bounds_u16 w6
  exact DevOpens_core a0 a1 a2 len2 cap2 a3 a4 a5 a6 w w2 h3.1 h3.2 (by omega) (by omega) (by omega) (by omega) (by omega) (by omega)
end Go.Proofs.Ytnjekhnheihooaa
