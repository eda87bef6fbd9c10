/-
  Contract of package extmap's Put (written by gen_em7.py).
-/
import Derived.Test.YtepaojegcaapfaaEm6
import Derived.Test.YtepaojegcaapfaaEm4
namespace Go.Wag
open Go.RowKit
set_option linter.unusedVariables false
theorem retM {n : Nat} {P : Program} {fn : Func} {R : Ending → World → Prop} {tmps : Array Value} {t u : Tmp} {w : World} (h : fn.results = #[.tmp t, .tmp u]) (hR : R (.returned (.tuple #[tmps.getD t undef, tmps.getD u undef])) w) : bodyPostM Fence.wide n P fn R .ret ⟨tmps, []⟩ w := ⟨_, results_tmp2 h _ _ _, hR⟩
theorem retM1 {n D : Nat} {P : Program} {fn : Func} {R : Ending → World → Prop} {tmps : Array Value} {t u : Tmp} {w : World} (h : fn.results = #[.tmp t, .tmp u]) (hK : w.heap[D]? = some (.deferred (some []))) (hR : R (.returned (.tuple #[tmps.getD t undef, tmps.getD u undef])) (w.putObj D (.deferred none))) : bodyPostM Fence.wide n P fn R .ret ⟨tmps, [{ target := .collected D, args := #[] }]⟩ w :=
  ⟨by simp, .inl ⟨_, _, rfl, run_takeDeferred hK, _, results_tmp2 h _ _ _, hR⟩⟩
theorem mrun_len : ∀ {l : List Xp} {e f : Int}, mrun e l f → e + l.length ≤ f
  | [], e, f, h => by
    cases h
    simp
  | x :: l, e, f, h => by
    have := mrun_len h.2.2
    have := Xp.all h.1
    rw [List.length_cons]
    omega
theorem wpListIn_run {F : Fence} {n : Nat} {P : Program} {ops : Array Oper} {rest : List Oper} {o : Oper} {a : Act} {w w' : World} {Q : Exit → Act → World → Prop} {v u : Value} {A : Option Addr} {m c : Nat} (hgd : o.guard = none) (s x : Operand) (t : TypeId)
    (ho : o.op = .call { callee := .builtin .append, args := #[s, x], argTypes := #[t, t] }) (hs : a.eval s = v) (hx : a.eval x = .slice A m c)
    (hr : (Builtin.append_ #[t, t] o.type #[v, .slice A m c]).run P w = .ok u w') (hgo : True → wpListIn F n P ops Q rest (a.put o.dst u) w') : wpListIn F n P ops Q (o :: rest) a w := by
  refine wpListIn_plain hgd fun K hK => ?_
  unfold Oper.wpIn
  refine ⟨by simp [Oper.about, ho, resolve, Target.leads, Sem.run_pure], ?_⟩
  rw [Oper.semAt_plain F _ _ (by rw [ho]; intro c hc; cases hc)]
  simp only [execOp, ho, resolve, invoke, builtin, Sem.run_bind, Sem.run_pure, Result.andThen_ok, List.map_toArray, List.map_cons, List.map_nil, hs, hx, hr]
  exact hK _ _ (hgo trivial)
theorem rq_cells {E : Elt Xp} {F : Nat → Prop} {B : Nat} {t : TypeId} {w : World} {A : Option Addr} {n c : Nat} {xs : List Xp} (h : Rq E F B t w A n c xs) : ∀ (j : Nat) (o : Obj), (Value.slice A n c).ownBlock = some j → w.heap[j]? = some o → o.isCells = true := fun j o hj ho => by
  obtain ⟨cs, hx, _⟩ := h.row
  rcases hx.2 with ⟨hv, _⟩ | ⟨g, cap, cur, hv, _, hg, _⟩
  · rw [hv] at hj
    cases hj
  · rw [hv] at hj
    obtain rfl : g = j := Option.some.inj hj
    rw [hg] at ho
    cases ho
    rfl
def sel3 {α : Type} (a b c : α) : Nat → α
  | 0 => a
  | 1 => b
  | _ => c
theorem cat3 (l1 l2 l3 : List Xp) : catN (sel3 l1 l2 l3) 3 = l1 ++ (l2 ++ l3) := by
  show ((([] ++ l1) ++ l2) ++ l3) = _
  simp
end Go.Wag
namespace Go.Proofs.Ytepaojegcaapfaa
open Go.RowKit Go.Wag
set_option linter.unusedVariables false
set_option linter.unusedSimpArgs false
set_option maxRecDepth 20000
attribute [local go_sem] Oper.semAt_some
/-- What holds between two rounds of Put's loop. -/
def PutI (w3 : World) (nm : Nat) (L : List Xp) (A9 : Option Addr) (n9 c9 : Nat) (pre : List Xp) (W : World) : Prop :=
  ∃ Ar nr cr, Hid (pre.length = nr) ∧ Blk W nm #[.slice Ar nr cr] 22 ∧ Blk W (nm + 1) #[.slice A9 n9 c9] 22 ∧ Rs extE (fun y => w3.heap.size ≤ y ∧ y < nm) W A9 n9 c9 L ∧ Rq extE (fun y => w3.heap.size ≤ y ∧ y ≠ nm) (nm + 2) 38 W Ar nr cr pre ∧ Below w3.heap.size w3 W
set_option maxHeartbeats 8000000 in
theorem mPut_any {F : Nat → Prop} (b : Int) (xs : List Xp) (A : Option Addr) (n c : Nat) (x : Xp) (Ax : Option Addr) (mx cx : Nat) (w : World) (h : Rs extE F w A n c xs) (hla : ∀ x ∈ xs, x.la ≤ 9223372036854775807) (hn : n ≤ 1000000000) (hxl : x.l.length = mx) (hS : Sl w Ax mx cx (x.l.map v8)) (hxla : x.la ≤ 9223372036854775807) :
    Calls Try.prog 21 #[.int .i64 b, .slice A n c, .agg #[.int .i64 x.la, .int .i64 x.n, .int .i64 x.k, .int .i64 x.g, .slice Ax mx cx]] w (if mapB b xs = false then LErr w [] 80 else if mfit b x = true then LErr w (mput b xs x) 0 else LErr w xs 81) := by
  have V := Blk.new w #[.int .i64 x.la, .int .i64 x.n, .int .i64 x.k, .int .i64 x.g, .slice Ax mx cx] 38
  have bb := (Below.refl w.heap.size w).alloc (Nat.le_refl _) (.cells #[.int .i64 x.la, .int .i64 x.n, .int .i64 x.k, .int .i64 x.g, .slice Ax mx cx] 38)
  replace h := h.alloc (.cells #[.int .i64 x.la, .int .i64 x.n, .int .i64 x.k, .int .i64 x.g, .slice Ax mx cx] 38)
  replace hS := hS.alloc (.cells #[.int .i64 x.la, .int .i64 x.n, .int .i64 x.k, .int .i64 x.g, .slice Ax mx cx] 38)
  have hC := mCheck_any b xs A n c _ h hla hn
  have hck : xchk x.la x.n x.k x.g mx = x.ok := by rw [← hxl]; rfl
  cases hm : mapB b xs
  · rw [if_pos rfl]
    rw [hm] at hC
    refine callsIn_wide.1 (callsIn_of_wp_marks (n := 4) Try.func21 rfl trivial (wpIn_wide.2 ?_))
    simp only [Try.ntmps21, List.size_toArray, List.length_cons, List.length_nil, Nat.reduceAdd, Nat.reduceSub, Array.replicate_succ, Array.replicate_zero, List.push_toArray, List.append_toArray, List.nil_append, List.cons_append]
    go_wp2_with fail
    refine hC.mono ?_
    rintro e w2 ⟨rfl, b2⟩
    go_wp2
    refine retM rfl ?_
    exact LErr.nil _ (bb.trans (b2.mono bb.size))
  rw [if_neg (by simp)]
  rw [hm] at hC
  obtain ⟨hb1, hb64, hrun, _⟩ := (mapB_iff _ _).1 hm
  have hok := mrun_ok hrun
  have hcp := mcopy_ok hok
  clear hrun
  by_cases hf : mfit b x = true
  · rw [if_pos hf]
    obtain ⟨hxo, hxb⟩ := (mfit_iff _ _).1 hf
    have ha := Xp.all hxo
    rw [hxo] at hck
    have hl0 : 0 ≤ x.la ∧ x.la ≤ 64 := by omega
    have hw1 : wrap64 (x.la + x.n) = x.la + x.n := by unfold wrap64; omega
    obtain ⟨en, hen⟩ : ∃ en, x.la + x.n = en := ⟨_, rfl⟩
    replace hw1 := hw1.trans hen
    have hw2 : wrap64 (b - en) = b - en := by unfold wrap64; omega
    have hw3 : IntKind.i64.wrap (b - en) = b - en := (IntWalk.i64_left _).trans hw2
    obtain ⟨d, hd⟩ : ∃ d, b - en = d := ⟨_, rfl⟩
    replace hw2 := hw2.trans hd
    replace hw3 := hw3.trans hd
    have hpc : mparts xs 0 x.la ++ ([x] ++ mparts xs en d) = mpieces b xs x := by rw [mpieces, ← hd, ← hen]; rfl
    have henb : ¬ en > b := by omega
    have hxcp := mcopy_ok (l := [x]) (by intro y hy; rw [List.mem_singleton.1 hy]; exact hxo)
    clear ha
    replace hen := Lib.hid hen
    replace hd := Lib.hid hd
    replace hm := Lib.hid hm
    replace hf := Lib.hid hf
    replace hxb := Lib.hid hxb
    replace hxo := Lib.hid hxo
    replace hcp := Lib.hid hcp
    refine callsIn_wide.1 (callsIn_of_wp_marks (n := 4) Try.func21 rfl trivial (wpIn_wide.2 ?_))
    simp only [Try.ntmps21, List.size_toArray, List.length_cons, List.length_nil, Nat.reduceAdd, Nat.reduceSub, Array.replicate_succ, Array.replicate_zero, List.push_toArray, List.append_toArray, List.nil_append, List.cons_append]
    go_wp2_with fail
    refine hC.mono ?_
    generalize hwa : w.alloc (.cells #[.int .i64 x.la, .int .i64 x.n, .int .i64 x.k, .int .i64 x.g, .slice Ax mx cx] 38) = wa at *
    obtain ⟨bx, hbx⟩ : ∃ k, w.heap.size = k := ⟨_, rfl⟩
    rw [hbx] at V
    try simp only [hbx]
    clear hC hwa
    rintro e w2 ⟨rfl, b2⟩
    replace V := V.under b2
    replace h := h.below b2
    replace hS := hS.below b2
    replace bb := bb.trans (b2.mono bb.size)
    clear b2
    have hV5 := V.five
    obtain ⟨v0, v1, v2, v3, v4, _⟩ := hV5
    have hC := eCheck_any x.la x.n x.k x.g Ax mx cx w2 hxla
    rw [hck] at hC
    go_wp2_with fail
    refine hC.mono ?_
    clear hC v0 v1 v2 v3 v4
    rintro e w3 ⟨rfl, b3⟩
    replace V := V.under b3
    replace h := h.below b3
    replace hS := hS.below b3
    replace bb := bb.trans (b3.mono bb.size)
    clear b3
    obtain ⟨v0, v1, v2, v3, v4, _⟩ := V.five
    go_wp2_with fail
    clear v0 v1 v2 v3 v4
    refine region_join (α := Option Addr → Nat → Nat → Nat → Option Addr → Nat → Nat → Option Addr → Nat → Nat → Nat → Option Addr → Nat → Nat → Act) (R := fun T a w' => ∃ (A1 : Option Addr) (n1 c1 kb : Nat) (A2 : Option Addr) (n2 c2 : Nat) (A3 : Option Addr) (n3 c3 kc : Nat) (A9 : Option Addr) (n9 c9 : Nat), a = T A1 n1 c1 kb A2 n2 c2 A3 n3 c3 kc A9 n9 c9 ∧ Hid ((mpieces b xs x).length = n9) ∧ Rs extE (fun y => w3.heap.size ≤ y) w' A9 n9 c9 (mpieces b xs x) ∧ Below w3.heap.size w3 w') ?T6 ?body6 ?rest6
    case body6 =>
      refine wp_region_held_drew (S := fun w' => Below w3.heap.size w3 w') (by kernel_rfl) (Below.refl _ _).drew (fun hHeld => ?_)
      try dsimp only at hHeld
      generalize w3.drew = wd at *
      try simp only [Act.put, List.setIfInBounds_toArray, List.set_cons_zero, List.set_cons_succ]
      refine wpAnyH_take (i := 0) (v := ?_) (by simp only [List.getElem?_toArray, List.getElem?_cons_zero]; rfl) (by kernel_rfl) (by kernel_rfl) (by kernel_rfl) (by intro _ _ _ h; exact nomatch h.1) (Or.inl ⟨by rfl, ?_⟩) hHeld ?_
      rotate_left 1
      · intro wq hSw
        try dsimp only at hSw
        go_simp
        try (with_reducible rfl)
      try simp only [Act.put, List.setIfInBounds_toArray, List.set_cons_zero, List.set_cons_succ]
      refine wpAnyH_take (i := 1) (v := ?_) (by simp only [List.getElem?_toArray, List.getElem?_cons_succ, List.getElem?_cons_zero]; rfl) (by kernel_rfl) (by kernel_rfl) (by kernel_rfl) (by intro _ _ _ h; exact nomatch h.1) (Or.inl ⟨by rfl, ?_⟩) hHeld ?_
      rotate_left 1
      · intro wq hSw
        try dsimp only at hSw
        go_simp
        try (with_reducible rfl)
      try simp only [Act.put, List.setIfInBounds_toArray, List.set_cons_zero, List.set_cons_succ]
      refine wpAnyH_take (i := 2) (v := ?_) (by simp only [List.getElem?_toArray, List.getElem?_cons_succ, List.getElem?_cons_zero]; rfl) (by kernel_rfl) (by kernel_rfl) (by kernel_rfl) (by intro _ _ _ h; exact nomatch h.1) (Or.inl ⟨by rfl, ?_⟩) hHeld ?_
      rotate_left 1
      · intro wq hSw
        try dsimp only at hSw
        obtain ⟨q0, q1, q2, q3, q4, _⟩ := (V.under hSw).five
        go_simp
        try (with_reducible rfl)
      try simp only [Act.put, List.setIfInBounds_toArray, List.set_cons_zero, List.set_cons_succ]
      refine wpAnyH_take (i := 4) (v := ?_) (by simp only [List.getElem?_toArray, List.getElem?_cons_succ, List.getElem?_cons_zero]; rfl) (by kernel_rfl) (by kernel_rfl) (by kernel_rfl) (by intro _ _ _ h; exact nomatch h.1) (Or.inl ⟨by rfl, ?_⟩) hHeld ?_
      rotate_left 1
      · intro wq hSw
        try dsimp only at hSw
        obtain ⟨q0, q1, q2, q3, q4, _⟩ := (V.under hSw).five
        go_simp
        try (with_reducible rfl)
      try simp only [Act.put, List.setIfInBounds_toArray, List.set_cons_zero, List.set_cons_succ]
      refine wpAnyH_take (i := 7) (v := ?_) (by simp only [List.getElem?_toArray, List.getElem?_cons_succ, List.getElem?_cons_zero]; rfl) (by kernel_rfl) (by kernel_rfl) (by kernel_rfl) (by intro _ _ _ h; exact nomatch h.1) (Or.inl ⟨by rfl, ?_⟩) hHeld ?_
      rotate_left 1
      · intro wq hSw
        try dsimp only at hSw
        go_simp
        try (with_reducible rfl)
      try simp only [Act.put, List.setIfInBounds_toArray, List.set_cons_zero, List.set_cons_succ]
      refine wpAnyH_take (i := 8) (v := ?_) (by simp only [List.getElem?_toArray, List.getElem?_cons_succ, List.getElem?_cons_zero]; rfl) (by kernel_rfl) (by kernel_rfl) (by kernel_rfl) (by intro _ _ _ h; exact nomatch h.1) (Or.inl ⟨by rfl, ?_⟩) hHeld ?_
      rotate_left 1
      · intro wq hSw
        try dsimp only at hSw
        go_simp
        try (with_reducible rfl)
      try simp only [Act.put, List.setIfInBounds_toArray, List.set_cons_zero, List.set_cons_succ]
      refine wpAnyH_take (i := 9) (v := ?_) (by simp only [List.getElem?_toArray, List.getElem?_cons_succ, List.getElem?_cons_zero]; rfl) (by kernel_rfl) (by kernel_rfl) (by kernel_rfl) (by intro _ _ _ h; exact nomatch h.1) (Or.inl ⟨by rfl, ?_⟩) hHeld ?_
      rotate_left 1
      · intro wq hSw
        try dsimp only at hSw
        go_simp
        try (with_reducible rfl)
      try simp only [Act.put, List.setIfInBounds_toArray, List.set_cons_zero, List.set_cons_succ]
      refine wpAnyH_take (i := 10) (v := ?_) (by simp only [List.getElem?_toArray, List.getElem?_cons_succ, List.getElem?_cons_zero]; rfl) (by kernel_rfl) (by kernel_rfl) (by kernel_rfl) (by intro _ _ _ h; exact nomatch h.1) (Or.inl ⟨by rfl, ?_⟩) hHeld ?_
      rotate_left 1
      · intro wq hSw
        try dsimp only at hSw
        go_simp
        try (with_reducible rfl)
      try simp only [Act.put, List.setIfInBounds_toArray, List.set_cons_zero, List.set_cons_succ]
      refine wpAnyH_take (i := 11) (v := ?_) (by simp only [List.getElem?_toArray, List.getElem?_cons_succ, List.getElem?_cons_zero]; rfl) (by kernel_rfl) (by kernel_rfl) (by kernel_rfl) (by intro _ _ _ h; exact nomatch h.1) (Or.inl ⟨by rfl, ?_⟩) hHeld ?_
      rotate_left 1
      · intro wq hSw
        try dsimp only at hSw
        go_simp
        try (with_reducible rfl)
      try simp only [Act.put, List.setIfInBounds_toArray, List.set_cons_zero, List.set_cons_succ]
      refine wpAnyH_ready (rs := [3, 5]) (by kernel_rfl) (by simp) ?_
      refine AllReadyH.cons (by simp only [List.getElem?_toArray, List.getElem?_cons_succ, List.getElem?_cons_zero]; rfl) (fun K hK => ?_) (AllReadyH.cons (by simp only [List.getElem?_toArray, List.getElem?_cons_succ, List.getElem?_cons_zero]; rfl) (fun K hK => ?_) AllReadyH.nil)
      · skip
        have hC := mparts_any xs A n c 0 x.la wd (h.below hHeld) hla hn
        go_simp
        refine hC.mono ?_
        clear hC
        rintro e w_3 ⟨A1, n1, c1, hn1, rfl, Rk, bk⟩
        have rs1 : Rs extE (fun y => w3.heap.size ≤ y) w_3 A1 n1 c1 (mparts xs 0 x.la) := (rq_rs Rk).imp (fun y _ hy => Nat.le_trans hHeld.size hy)
        have bN := hHeld.trans (bk.mono hHeld.size)
        clear Rk bk
        go_wp2_with fail
        refine hK.out _ _ (bN) (fun hHeld => ?_)
        clear hK K
        try dsimp only at hHeld
        clear bN
        try simp only [Act.put, List.setIfInBounds_toArray, List.set_cons_zero, List.set_cons_succ]
        refine wpAnyH_ready (rs := [5]) (by kernel_rfl) (by simp) ?_
        refine AllReadyH.cons (by simp only [List.getElem?_toArray, List.getElem?_cons_succ, List.getElem?_cons_zero]; rfl) (fun K hK => ?_) AllReadyH.nil
        obtain ⟨kb, hkb⟩ : ∃ k, w_3.heap.size = k := ⟨_, rfl⟩
        go_simp
        try simp only [hkb]
        have B5 := Blk.new w_3 #[.int .i64 x.la, .int .i64 x.n, .int .i64 x.k, .int .i64 x.g, .slice Ax mx cx] 38
        rw [hkb] at B5
        have bN := hHeld.alloc hHeld.size (.cells #[.int .i64 x.la, .int .i64 x.n, .int .i64 x.k, .int .i64 x.g, .slice Ax mx cx] 38)
        replace rs1 := rs1.alloc (.cells #[.int .i64 x.la, .int .i64 x.n, .int .i64 x.k, .int .i64 x.g, .slice Ax mx cx] 38)
        clear hkb
        generalize w_3.alloc (.cells #[.int .i64 x.la, .int .i64 x.n, .int .i64 x.k, .int .i64 x.g, .slice Ax mx cx] 38) = w_3_5 at *
        refine hK.out _ _ (bN) (fun hHeld => ?_)
        clear hK K
        try dsimp only at hHeld
        clear bN
        try simp only [Act.put, List.setIfInBounds_toArray, List.set_cons_zero, List.set_cons_succ]
        refine wpAnyH_ready (rs := [6]) (by kernel_rfl) (by simp) ?_
        refine AllReadyH.cons (by simp only [List.getElem?_toArray, List.getElem?_cons_succ, List.getElem?_cons_zero]; rfl) (fun K hK => ?_) AllReadyH.nil
        have hC := mcopied_any [x] (some ⟨kb, 0, none⟩) 1 1 w_3_5 (rs_ext1 hxl B5 (hS.below hHeld)) (fun y hy => by rw [List.mem_singleton.1 hy]; exact hxla) (by omega)
        rw [hxcp] at hC
        go_simp
        refine hC.mono ?_
        clear hC
        rintro e w_3_5_6 ⟨A2, n2, c2, hn2, rfl, Rk, bk⟩
        have rs2 : Rs extE (fun y => w3.heap.size ≤ y) w_3_5_6 A2 n2 c2 [x] := (rq_rs Rk).imp (fun y _ hy => Nat.le_trans hHeld.size hy)
        have bN := hHeld.trans (bk.mono hHeld.size)
        replace rs1 := rs1.below bk
        clear Rk bk
        clear B5
        go_wp2_with fail
        refine hK.out _ _ (bN) (fun hHeld => ?_)
        clear hK K
        try dsimp only at hHeld
        clear bN
        try simp only [Act.put, List.setIfInBounds_toArray, List.set_cons_zero, List.set_cons_succ]
        refine wpAnyH_ready (rs := [12]) (by kernel_rfl) (by simp) ?_
        refine AllReadyH.cons (by simp only [List.getElem?_toArray, List.getElem?_cons_succ, List.getElem?_cons_zero]; rfl) (fun K hK => ?_) AllReadyH.nil
        have hC := mparts_any xs A n c en d w_3_5_6 (h.below hHeld) hla hn
        go_simp
        refine hC.mono ?_
        clear hC
        rintro e w_3_5_6_12 ⟨A3, n3, c3, hn3, rfl, Rk, bk⟩
        have rs3 : Rs extE (fun y => w3.heap.size ≤ y) w_3_5_6_12 A3 n3 c3 (mparts xs en d) := (rq_rs Rk).imp (fun y _ hy => Nat.le_trans hHeld.size hy)
        have bN := hHeld.trans (bk.mono hHeld.size)
        replace rs1 := rs1.below bk
        replace rs2 := rs2.below bk
        clear Rk bk
        go_wp2_with fail
        refine hK.out _ _ (bN) (fun hHeld => ?_)
        clear hK K
        try dsimp only at hHeld
        clear bN
        try simp only [Act.put, List.setIfInBounds_toArray, List.set_cons_zero, List.set_cons_succ]
        refine wpAnyH_ready (rs := [13]) (by kernel_rfl) (by simp) ?_
        refine AllReadyH.cons (by simp only [List.getElem?_toArray, List.getElem?_cons_succ, List.getElem?_cons_zero]; rfl) (fun K hK => ?_) AllReadyH.nil
        obtain ⟨kc, hkc⟩ : ∃ k, w_3_5_6_12.heap.size = k := ⟨_, rfl⟩
        go_simp
        try simp only [hkc]
        have B13 := Blk.new w_3_5_6_12 #[.slice A1 n1 c1, .slice A2 n2 c2, .slice A3 n3 c3] 22
        rw [hkc] at B13
        have bN := hHeld.alloc hHeld.size (.cells #[.slice A1 n1 c1, .slice A2 n2 c2, .slice A3 n3 c3] 22)
        replace rs1 := rs1.alloc (.cells #[.slice A1 n1 c1, .slice A2 n2 c2, .slice A3 n3 c3] 22)
        replace rs2 := rs2.alloc (.cells #[.slice A1 n1 c1, .slice A2 n2 c2, .slice A3 n3 c3] 22)
        replace rs3 := rs3.alloc (.cells #[.slice A1 n1 c1, .slice A2 n2 c2, .slice A3 n3 c3] 22)
        clear hkc
        generalize w_3_5_6_12.alloc (.cells #[.slice A1 n1 c1, .slice A2 n2 c2, .slice A3 n3 c3] 22) = w_3_5_6_12_13 at *
        refine hK.out _ _ (bN) (fun hHeld => ?_)
        clear hK K
        try dsimp only at hHeld
        clear bN
        try simp only [Act.put, List.setIfInBounds_toArray, List.set_cons_zero, List.set_cons_succ]
        refine wpAnyH_ready (rs := [14]) (by kernel_rfl) (by simp) ?_
        refine AllReadyH.cons (by simp only [List.getElem?_toArray, List.getElem?_cons_succ, List.getElem?_cons_zero]; rfl) (fun K hK => ?_) AllReadyH.nil
        have hN1 : n1 ≤ 1000000000 := by have := mparts_len xs 0 x.la; have := hn1.out; have := h.len; omega
        have hN2 : n2 ≤ 1000000000 := by have := hn2.out; rw [List.length_singleton] at this; omega
        have hN3 : n3 ≤ 1000000000 := by have := mparts_len xs en d; have := hn3.out; have := h.len; omega
        have hC := eConcatX_any (F := fun y => w3.heap.size ≤ y) kc (sel3 A1 A2 A3) (sel3 n1 n2 n3) (sel3 c1 c2 c3) (sel3 (mparts xs 0 x.la) [x] (mparts xs en d)) w_3_5_6_12_13 (fun k hk => match k, hk with | 0, _ => B13.cell 0 | 1, _ => B13.cell 1 | 2, _ => B13.cell 2) B13.lt (fun k hk => match k, hk with | 0, _ => rs1 | 1, _ => rs2 | 2, _ => rs3) (fun k hk => match k, hk with | 0, _ => hN1 | 1, _ => hN2 | 2, _ => hN3)
        rw [cat3, hpc] at hC
        go_simp
        refine hC.mono ?_
        clear hC
        rintro e w_3_5_6_12_13_14 ⟨A9, n9, c9, hn9, rfl, R9, b9⟩
        have rs9 : Rs extE (fun y => w3.heap.size ≤ y) w_3_5_6_12_13_14 A9 n9 c9 (mpieces b xs x) := (R9.imp (F' := fun y => w3.heap.size ≤ y) (fun y _ hy => hy.1)).toRs (fun y _ hy => Nat.le_trans hHeld.size hy)
        have bN := hHeld.trans (b9.mono hHeld.size)
        clear R9 b9
        go_wp2_with fail
        refine hK.out _ _ (bN) (fun hHeld => ?_)
        clear hK K
        try dsimp only at hHeld
        clear bN
        try simp only [Act.put, List.setIfInBounds_toArray, List.set_cons_zero, List.set_cons_succ]
        refine wpAnyH_take (i := 15) (v := ?_) (by simp only [List.getElem?_toArray, List.getElem?_cons_succ, List.getElem?_cons_zero]; rfl) (by kernel_rfl) (by kernel_rfl) (by kernel_rfl) (by intro _ _ _ h; exact nomatch h.1) (Or.inl ⟨by rfl, ?_⟩) hHeld ?_
        rotate_left 1
        · intro wq hSw
          try dsimp only at hSw
          go_simp
          try (with_reducible rfl)
        try simp only [Act.put, List.setIfInBounds_toArray, List.set_cons_zero, List.set_cons_succ]
        refine wpAnyH_done (by kernel_rfl) ?_ _
        refine ⟨rfl, A1, n1, c1, kb, A2, n2, c2, A3, n3, c3, kc, A9, n9, c9, ?_, hn9, rs9, hHeld⟩
        with_reducible rfl
      · skip
        obtain ⟨kb, hkb⟩ : ∃ k, wd.heap.size = k := ⟨_, rfl⟩
        go_simp
        try simp only [hkb]
        have B5 := Blk.new wd #[.int .i64 x.la, .int .i64 x.n, .int .i64 x.k, .int .i64 x.g, .slice Ax mx cx] 38
        rw [hkb] at B5
        have bN := hHeld.alloc hHeld.size (.cells #[.int .i64 x.la, .int .i64 x.n, .int .i64 x.k, .int .i64 x.g, .slice Ax mx cx] 38)
        clear hkb
        generalize wd.alloc (.cells #[.int .i64 x.la, .int .i64 x.n, .int .i64 x.k, .int .i64 x.g, .slice Ax mx cx] 38) = w_5 at *
        refine hK.out _ _ (bN) (fun hHeld => ?_)
        clear hK K
        try dsimp only at hHeld
        clear bN
        try simp only [Act.put, List.setIfInBounds_toArray, List.set_cons_zero, List.set_cons_succ]
        refine wpAnyH_ready (rs := [3]) (by kernel_rfl) (by simp) ?_
        refine AllReadyH.cons (by simp only [List.getElem?_toArray, List.getElem?_cons_succ, List.getElem?_cons_zero]; rfl) (fun K hK => ?_) AllReadyH.nil
        have hC := mparts_any xs A n c 0 x.la w_5 (h.below hHeld) hla hn
        go_simp
        refine hC.mono ?_
        clear hC
        rintro e w_5_3 ⟨A1, n1, c1, hn1, rfl, Rk, bk⟩
        have rs1 : Rs extE (fun y => w3.heap.size ≤ y) w_5_3 A1 n1 c1 (mparts xs 0 x.la) := (rq_rs Rk).imp (fun y _ hy => Nat.le_trans hHeld.size hy)
        have bN := hHeld.trans (bk.mono hHeld.size)
        replace B5 := B5.under bk
        clear Rk bk
        go_wp2_with fail
        refine hK.out _ _ (bN) (fun hHeld => ?_)
        clear hK K
        try dsimp only at hHeld
        clear bN
        try simp only [Act.put, List.setIfInBounds_toArray, List.set_cons_zero, List.set_cons_succ]
        refine wpAnyH_ready (rs := [6]) (by kernel_rfl) (by simp) ?_
        refine AllReadyH.cons (by simp only [List.getElem?_toArray, List.getElem?_cons_succ, List.getElem?_cons_zero]; rfl) (fun K hK => ?_) AllReadyH.nil
        have hC := mcopied_any [x] (some ⟨kb, 0, none⟩) 1 1 w_5_3 (rs_ext1 hxl B5 (hS.below hHeld)) (fun y hy => by rw [List.mem_singleton.1 hy]; exact hxla) (by omega)
        rw [hxcp] at hC
        go_simp
        refine hC.mono ?_
        clear hC
        rintro e w_5_3_6 ⟨A2, n2, c2, hn2, rfl, Rk, bk⟩
        have rs2 : Rs extE (fun y => w3.heap.size ≤ y) w_5_3_6 A2 n2 c2 [x] := (rq_rs Rk).imp (fun y _ hy => Nat.le_trans hHeld.size hy)
        have bN := hHeld.trans (bk.mono hHeld.size)
        replace rs1 := rs1.below bk
        clear Rk bk
        clear B5
        go_wp2_with fail
        refine hK.out _ _ (bN) (fun hHeld => ?_)
        clear hK K
        try dsimp only at hHeld
        clear bN
        try simp only [Act.put, List.setIfInBounds_toArray, List.set_cons_zero, List.set_cons_succ]
        refine wpAnyH_ready (rs := [12]) (by kernel_rfl) (by simp) ?_
        refine AllReadyH.cons (by simp only [List.getElem?_toArray, List.getElem?_cons_succ, List.getElem?_cons_zero]; rfl) (fun K hK => ?_) AllReadyH.nil
        have hC := mparts_any xs A n c en d w_5_3_6 (h.below hHeld) hla hn
        go_simp
        refine hC.mono ?_
        clear hC
        rintro e w_5_3_6_12 ⟨A3, n3, c3, hn3, rfl, Rk, bk⟩
        have rs3 : Rs extE (fun y => w3.heap.size ≤ y) w_5_3_6_12 A3 n3 c3 (mparts xs en d) := (rq_rs Rk).imp (fun y _ hy => Nat.le_trans hHeld.size hy)
        have bN := hHeld.trans (bk.mono hHeld.size)
        replace rs1 := rs1.below bk
        replace rs2 := rs2.below bk
        clear Rk bk
        go_wp2_with fail
        refine hK.out _ _ (bN) (fun hHeld => ?_)
        clear hK K
        try dsimp only at hHeld
        clear bN
        try simp only [Act.put, List.setIfInBounds_toArray, List.set_cons_zero, List.set_cons_succ]
        refine wpAnyH_ready (rs := [13]) (by kernel_rfl) (by simp) ?_
        refine AllReadyH.cons (by simp only [List.getElem?_toArray, List.getElem?_cons_succ, List.getElem?_cons_zero]; rfl) (fun K hK => ?_) AllReadyH.nil
        obtain ⟨kc, hkc⟩ : ∃ k, w_5_3_6_12.heap.size = k := ⟨_, rfl⟩
        go_simp
        try simp only [hkc]
        have B13 := Blk.new w_5_3_6_12 #[.slice A1 n1 c1, .slice A2 n2 c2, .slice A3 n3 c3] 22
        rw [hkc] at B13
        have bN := hHeld.alloc hHeld.size (.cells #[.slice A1 n1 c1, .slice A2 n2 c2, .slice A3 n3 c3] 22)
        replace rs1 := rs1.alloc (.cells #[.slice A1 n1 c1, .slice A2 n2 c2, .slice A3 n3 c3] 22)
        replace rs2 := rs2.alloc (.cells #[.slice A1 n1 c1, .slice A2 n2 c2, .slice A3 n3 c3] 22)
        replace rs3 := rs3.alloc (.cells #[.slice A1 n1 c1, .slice A2 n2 c2, .slice A3 n3 c3] 22)
        clear hkc
        generalize w_5_3_6_12.alloc (.cells #[.slice A1 n1 c1, .slice A2 n2 c2, .slice A3 n3 c3] 22) = w_5_3_6_12_13 at *
        refine hK.out _ _ (bN) (fun hHeld => ?_)
        clear hK K
        try dsimp only at hHeld
        clear bN
        try simp only [Act.put, List.setIfInBounds_toArray, List.set_cons_zero, List.set_cons_succ]
        refine wpAnyH_ready (rs := [14]) (by kernel_rfl) (by simp) ?_
        refine AllReadyH.cons (by simp only [List.getElem?_toArray, List.getElem?_cons_succ, List.getElem?_cons_zero]; rfl) (fun K hK => ?_) AllReadyH.nil
        have hN1 : n1 ≤ 1000000000 := by have := mparts_len xs 0 x.la; have := hn1.out; have := h.len; omega
        have hN2 : n2 ≤ 1000000000 := by have := hn2.out; rw [List.length_singleton] at this; omega
        have hN3 : n3 ≤ 1000000000 := by have := mparts_len xs en d; have := hn3.out; have := h.len; omega
        have hC := eConcatX_any (F := fun y => w3.heap.size ≤ y) kc (sel3 A1 A2 A3) (sel3 n1 n2 n3) (sel3 c1 c2 c3) (sel3 (mparts xs 0 x.la) [x] (mparts xs en d)) w_5_3_6_12_13 (fun k hk => match k, hk with | 0, _ => B13.cell 0 | 1, _ => B13.cell 1 | 2, _ => B13.cell 2) B13.lt (fun k hk => match k, hk with | 0, _ => rs1 | 1, _ => rs2 | 2, _ => rs3) (fun k hk => match k, hk with | 0, _ => hN1 | 1, _ => hN2 | 2, _ => hN3)
        rw [cat3, hpc] at hC
        go_simp
        refine hC.mono ?_
        clear hC
        rintro e w_5_3_6_12_13_14 ⟨A9, n9, c9, hn9, rfl, R9, b9⟩
        have rs9 : Rs extE (fun y => w3.heap.size ≤ y) w_5_3_6_12_13_14 A9 n9 c9 (mpieces b xs x) := (R9.imp (F' := fun y => w3.heap.size ≤ y) (fun y _ hy => hy.1)).toRs (fun y _ hy => Nat.le_trans hHeld.size hy)
        have bN := hHeld.trans (b9.mono hHeld.size)
        clear R9 b9
        go_wp2_with fail
        refine hK.out _ _ (bN) (fun hHeld => ?_)
        clear hK K
        try dsimp only at hHeld
        clear bN
        try simp only [Act.put, List.setIfInBounds_toArray, List.set_cons_zero, List.set_cons_succ]
        refine wpAnyH_take (i := 15) (v := ?_) (by simp only [List.getElem?_toArray, List.getElem?_cons_succ, List.getElem?_cons_zero]; rfl) (by kernel_rfl) (by kernel_rfl) (by kernel_rfl) (by intro _ _ _ h; exact nomatch h.1) (Or.inl ⟨by rfl, ?_⟩) hHeld ?_
        rotate_left 1
        · intro wq hSw
          try dsimp only at hSw
          go_simp
          try (with_reducible rfl)
        try simp only [Act.put, List.setIfInBounds_toArray, List.set_cons_zero, List.set_cons_succ]
        refine wpAnyH_done (by kernel_rfl) ?_ _
        refine ⟨rfl, A1, n1, c1, kb, A2, n2, c2, A3, n3, c3, kc, A9, n9, c9, ?_, hn9, rs9, hHeld⟩
        with_reducible rfl
    rintro a w9 ⟨A1, n1, c1, kb, A2, n2, c2, A3, n3, c3, kc, A9, n9, c9, rfl, hn9, R9, b9⟩
    try dsimp only
    clear V h hS
    have hn9b : n9 ≤ 1000000000 := by have := mrun_len (mpieces_run hm.out hf.out); have := hn9.out; omega
    have h9la : ∀ y ∈ mpieces b xs x, y.la ≤ 9223372036854775807 := fun y hy => by have := Xp.all (mrun_ok (mpieces_run hm.out hf.out) y hy); omega
    have Vm := Blk.new w9 #[.slice none 0 0] 22
    have bm := b9.alloc b9.size (.cells #[.slice none 0 0] 22)
    have hszm : (w9.alloc (.cells #[.slice none 0 0] 22)).heap.size = w9.heap.size + 1 := by simp
    have R9m := (R9.imp (F' := fun y => w3.heap.size ≤ y ∧ y < w9.heap.size) (fun y hy hF => ⟨hF, hy⟩)).alloc (.cells #[.slice none 0 0] 22)
    have hJ := joined_any A9 n9 c9 (w9.alloc (.cells #[.slice none 0 0] 22))
    have hs39 := b9.size
    go_wp2_with fail
    refine hJ.mono ?_
    clear hJ R9 b9
    generalize w9.alloc (.cells #[.slice none 0 0] 22) = wm at *
    obtain ⟨nm, hnm⟩ : ∃ k, w9.heap.size = k := ⟨_, rfl⟩
    rw [hnm] at Vm R9m hs39 hszm
    try simp only [hnm]
    rintro e wl ⟨rfl, hwl⟩
    have Vl := Blk.new wm #[.slice A9 n9 c9] 22
    rw [hszm] at Vl
    try simp only [hszm]
    replace Vm := Vm.alloc (.cells #[.slice A9 n9 c9] 22)
    replace R9m := R9m.alloc (.cells #[.slice A9 n9 c9] 22)
    replace bm := bm.alloc bm.size (.cells #[.slice A9 n9 c9] 22)
    rw [← hwl] at Vl Vm R9m bm
    clear hwl hszm hnm
    have hnml := Vm.lt
    have hbll := Vl.lt
    go_wp2_with fail
    refine range_joined (nm + 1) (fun y => w3.heap.size ≤ y ∧ y < nm) (mpieces b xs x) A9 n9 c9 rfl rfl h9la hn9b
      (PutI w3 nm (mpieces b xs x) A9 n9 c9)
      (fun pre W ⟨Ar, nr, cr, hl, B1, B2, R1, Rr, b1⟩ => ⟨B2.one.1, B2.lt, R1⟩)
      (fun pre W l o o' ⟨Ar, nr, cr, hl, B1, B2, R1, Rr, b1⟩ hlw ho hc hc' => ⟨Ar, nr, cr, hl, B1.turn ho hc o', B2.turn ho hc o', R1.turn ho hc hc', Rr.turn ho hc hc', below_turn b1 b1.size (by have := bm.size; omega) o'⟩)
      (fun pre W W' ⟨Ar, nr, cr, hl, B1, B2, R1, Rr, b1⟩ hb => ⟨Ar, nr, cr, hl, B1.under hb, B2.under hb, R1.below hb, Rr.below hb, b1.trans (hb.mono b1.size)⟩)
      ⟨none, 0, 0, rfl, Vm, Vl, R9m, Rq.nil _ _ _ _ _, bm⟩ ?round ?done
    case round =>
      rintro l pre y Ai mi ci W2 W1 ⟨Ar, nr, cr, hl, B1, B2, R1, Rr, b1⟩ hb H hlen hlw ⟨o, ho, hoc⟩
      obtain ⟨iX, hiX, hzX, hsX, hbX⟩ := iExt
      have hnr : nr < n9 := by rw [← hl.out]; exact hlen
      have hY : extE.rd (fun z => (w3.heap.size ≤ z ∧ z ≠ nm) ∧ (Value.slice Ar nr cr).ownBlock ≠ some z) (W1.alloc (.cells #[.int .i64 y.la, .int .i64 y.n, .int .i64 y.k, .int .i64 y.g, .slice Ai mi ci] 38)) [.int .i64 y.la, .int .i64 y.n, .int .i64 y.k, .int .i64 y.g, .slice Ai mi ci] y := by
        refine ⟨Ai, ci, by rw [H.1.out], by rw [H.1.out]; exact H.2.1.alloc _, fun h0 ad e => ?_⟩
        have hro := Rr.lt ad.block
        have hs := b1.size
        have hB1 := B1.lt
        rcases H.2.2 (by rw [← H.1.out]; exact h0) ad e with h1 | h1
        · exact ⟨⟨h1.1, by omega⟩, fun e2 => by have := hro e2; omega⟩
        · exact ⟨⟨by omega, by omega⟩, fun e2 => by have := hro e2; omega⟩
      have a1 := (Below.refl W1.heap.size W1).alloc (Nat.le_refl _) (.cells #[.int .i64 y.la, .int .i64 y.n, .int .i64 y.k, .int .i64 y.g, .slice Ai mi ci] 38)
      have hbA := hb.trans (a1.mono hb.size)
      have hol : (W1.alloc (.cells #[.int .i64 y.la, .int .i64 y.n, .int .i64 y.k, .int .i64 y.g, .slice Ai mi ci] 38)).heap[l]? = some o := (Below.heap_alloc W1 _ l (Array.getElem?_eq_some_iff.1 ho).1).trans ho
      replace B1 := B1.under hbA
      replace B2 := B2.under hbA
      replace R1 := R1.below hbA
      replace Rr := Rr.below hbA
      replace b1 := b1.trans (hbA.mono b1.size)
      have VY := Blk.new W1 #[.int .i64 y.la, .int .i64 y.n, .int .i64 y.k, .int .i64 y.g, .slice Ai mi ci] 38
      have KO := KeepsOthers.alloc W1 (.cells #[.int .i64 y.la, .int .i64 y.n, .int .i64 y.k, .int .i64 y.g, .slice Ai mi ci] 38)
      clear hbA a1 H hb ho
      dsimp only
      gi_wp2
      refine ⟨KO, fun o' ho' => ?_⟩
      clear KO
      have hsl : w3.heap.size ≤ l := Nat.le_trans bm.size hlw
      replace hY := extE.keep hY (w' := (W1.alloc (.cells #[.int .i64 y.la, .int .i64 y.n, .int .i64 y.k, .int .i64 y.g, .slice Ai mi ci] 38)).putObj l o') (by simp) (fun p _ _ => cell_turn hol hoc ho' p)
      replace B1 := B1.turn hol hoc o'
      replace B2 := B2.turn hol hoc o'
      replace R1 := R1.turn hol hoc ho'
      replace Rr := Rr.turn hol hoc ho'
      replace VY := VY.turn hol hoc o'
      replace b1 := below_turn b1 b1.size hsl o'
      clear hol hoc ho'
      obtain ⟨ky, hky⟩ : ∃ k, W1.heap.size = k := ⟨_, rfl⟩
      rw [hky] at VY
      try simp only [hky]
      generalize (W1.alloc (.cells #[.int .i64 y.la, .int .i64 y.n, .int .i64 y.k, .int .i64 y.g, .slice Ai mi ci] 38)).putObj l o' = W4 at *
      clear hky
      have Bs := Blk.new W4 #[.int .i64 y.la, .int .i64 y.n, .int .i64 y.k, .int .i64 y.g, .slice Ai mi ci] 38
      have a2 := (Below.refl W4.heap.size W4).alloc (Nat.le_refl _) (.cells #[.int .i64 y.la, .int .i64 y.n, .int .i64 y.k, .int .i64 y.g, .slice Ai mi ci] 38)
      have K1 := KeepsOthers.alloc W4 (.cells #[.int .i64 y.la, .int .i64 y.n, .int .i64 y.k, .int .i64 y.g, .slice Ai mi ci] 38)
      replace hY := Elt.below hY a2
      have B1a := B1.under a2
      have B2a := B2.under a2
      have R1a := R1.below a2
      have Rra := Rr.below a2
      have b1a := b1.trans (a2.mono b1.size)
      have hB2 : nm + 2 ≤ (W4.alloc (.cells #[.int .i64 y.la, .int .i64 y.n, .int .i64 y.k, .int .i64 y.g, .slice Ai mi ci] 38)).heap.size := by have := B2a.lt; omega
      obtain ⟨A5, c5, w5, hr, R5, gr, hlies⟩ := Rra.app (P := Try.prog) (T := 22) (ty := 22) Try.underlying22 hiX hzX hsX hbX rfl hB2 (by omega) (by omega) hY (one_ext _ _ _ _ _ _ _) Bs
      have hro := Rra.lt
      have K2 := KeepsOthers.of_grownBy gr (rq_cells Rra)
      have B1b := B1a.same (gr.block nm B1a.lt (fun e => by have := (hro _ e.symm).1; omega))
      have B2b := B2a.same (gr.block (nm + 1) B2a.lt (fun e => by have := (hro _ e.symm).1; omega))
      have R1b := R1a.keep gr.size (fun p hp hF => World.cell?_of_block (gr.block _ hp (fun e => by have := (hro _ e.symm).1; omega)))
      have b1b := b1a.grown gr b1a.size (fun z hz => by have := (hro z hz).1; omega)
      have hro5 := R5.lt
      have B1c := B1b.set 0 (.slice A5 (nr + 1) c5)
      have B2c := B2b.far (a := ⟨nm, 0, none⟩) (by show nm + 1 ≠ nm; omega) (.slice A5 (nr + 1) c5)
      have R1c := R1b.far (a := ⟨nm, 0, none⟩) (fun hh => by have : nm < nm := hh.2; omega) (.slice A5 (nr + 1) c5)
      have Rrc := R5.grown (grown_set w5 ⟨nm, 0, none⟩ (.slice A5 (nr + 1) c5)) (fun z hz e => by have := (hro5 z hz).1; have e2 : nm = z := Option.some.inj e; omega) (fun z _ hF e => hF.2 (Option.some.inj e).symm)
      have b1c := b1b.setCell (p := ⟨nm, 0, none⟩) (by show w3.heap.size ≤ nm; omega) (.slice A5 (nr + 1) c5)
      have K3 := (K1.trans K2).trans (KeepsOthers.setCell w5 ⟨nm, 0, none⟩ (.slice A5 (nr + 1) c5))
      have hl2 : Hid ((pre ++ [y]).length = nr + 1) := by (show (pre ++ [y]).length = nr + 1; rw [List.length_append, hl.out]; rfl)
      obtain ⟨q0, f0⟩ := B1b.one
      obtain ⟨m0, _⟩ := B1.one
      obtain ⟨v0, v1, v2, v3, v4, _⟩ := VY.five
      clear K1 K2 B1a B2a R1a Rra b1a hY gr hlies hro hro5 R1b b1b B1b B2b Bs a2 B1 B2 R1 Rr b1 VY
      gi_wp2_with (gi_at_builtin; refine wpListIn_run rfl (.tmp 53) (.tmp 55) 22 rfl rfl rfl hr ?_; intro _)
      first | exact ⟨K3, A5, nr + 1, c5, hl2, B1c, B2c, R1c, Rrc, b1c⟩ | exact ⟨rfl, K3, A5, nr + 1, c5, hl2, B1c, B2c, R1c, Rrc, b1c⟩ | exact ⟨A5, nr + 1, c5, hl2, B1c, B2c, R1c, Rrc, b1c⟩
    case done =>
      rintro D W hD ⟨Ar, nr, cr, hl, B1, B2, R1, Rr, b1⟩ hK
      dsimp only
      obtain ⟨m0, _⟩ := B1.one
      have Rr2 := Rr.turn hK rfl (o' := .deferred none) rfl
      have b2 := below_turn b1 b1.size (Nat.le_trans bm.size hD) (.deferred none)
      have hs := b1.size
      have hR2 := Rr2.toRs (fun y hy hB => ⟨by omega, by omega⟩)
      have hs3 := bb.size
      go_wp2
      refine retM1 rfl hK ?_
      exact ⟨Ar, nr, cr, hl, rfl, hR2.imp (fun y _ hy => by omega), bb.trans (b2.mono bb.size)⟩
  · rw [if_neg hf]
    have hK := fun W hh => mcopied_any (F := F) xs A n c W hh hla hn
    rw [hcp] at hK
    replace hm := Lib.hid hm
    clear hcp hok
    cases hxo : x.ok
    · rw [hxo] at hck
      clear hf hxo
      refine callsIn_wide.1 (callsIn_of_wp_marks (n := 4) Try.func21 rfl trivial (wpIn_wide.2 ?_))
      simp only [Try.ntmps21, List.size_toArray, List.length_cons, List.length_nil, Nat.reduceAdd, Nat.reduceSub, Array.replicate_succ, Array.replicate_zero, List.push_toArray, List.append_toArray, List.nil_append, List.cons_append]
      go_wp2_with fail
      refine hC.mono ?_
      generalize hwa : w.alloc (.cells #[.int .i64 x.la, .int .i64 x.n, .int .i64 x.k, .int .i64 x.g, .slice Ax mx cx] 38) = wa at *
      obtain ⟨bx, hbx⟩ : ∃ k, w.heap.size = k := ⟨_, rfl⟩
      rw [hbx] at V
      try simp only [hbx]
      clear hC hwa
      rintro e w2 ⟨rfl, b2⟩
      replace V := V.under b2
      replace h := h.below b2
      replace bb := bb.trans (b2.mono bb.size)
      clear b2
      obtain ⟨v0, v1, v2, v3, v4, _⟩ := V.five
      have hC := eCheck_any x.la x.n x.k x.g Ax mx cx w2 hxla
      rw [hck] at hC
      go_wp2_with fail
      refine hC.mono ?_
      clear hC v0 v1 v2 v3 v4
      rintro e w3 ⟨rfl, b3⟩
      replace V := V.under b3
      replace h := h.below b3
      replace bb := bb.trans (b3.mono bb.size)
      clear b3
      obtain ⟨v0, v1, v2, v3, v4, _⟩ := V.five
      go_wp2_with fail
      refine (hK w3 h).mono ?_
      clear hK v0 v1 v2 v3 v4
      rintro e w4 ⟨A4, n4, c4, hn4, rfl, R4, b4⟩
      have hs := bb.size
      go_wp2
      refine retM rfl ?_
      exact ⟨A4, n4, c4, hn4, rfl, (rq_rs R4).imp (fun y _ hy => by omega), bb.trans (b4.mono bb.size)⟩
    · rw [hxo] at hck
      have hxb : x.la + x.n > b := by
        rcases Int.lt_or_le b (x.la + x.n) with h1 | h1
        · exact h1
        · exact absurd ((mfit_iff _ _).2 ⟨hxo, h1⟩) hf
      have ha := Xp.all hxo
      have hw1 : wrap64 (x.la + x.n) = x.la + x.n := by unfold wrap64; omega
      obtain ⟨en, hen⟩ : ∃ en, x.la + x.n = en := ⟨_, rfl⟩
      replace hw1 := hw1.trans hen
      rw [hen] at hxb
      replace hen := Lib.hid hen
      clear hf hxo ha
      refine callsIn_wide.1 (callsIn_of_wp_marks (n := 4) Try.func21 rfl trivial (wpIn_wide.2 ?_))
      simp only [Try.ntmps21, List.size_toArray, List.length_cons, List.length_nil, Nat.reduceAdd, Nat.reduceSub, Array.replicate_succ, Array.replicate_zero, List.push_toArray, List.append_toArray, List.nil_append, List.cons_append]
      go_wp2_with fail
      refine hC.mono ?_
      generalize hwa : w.alloc (.cells #[.int .i64 x.la, .int .i64 x.n, .int .i64 x.k, .int .i64 x.g, .slice Ax mx cx] 38) = wa at *
      obtain ⟨bx, hbx⟩ : ∃ k, w.heap.size = k := ⟨_, rfl⟩
      rw [hbx] at V
      try simp only [hbx]
      clear hC hwa
      rintro e w2 ⟨rfl, b2⟩
      replace V := V.under b2
      replace h := h.below b2
      replace bb := bb.trans (b2.mono bb.size)
      clear b2
      obtain ⟨v0, v1, v2, v3, v4, _⟩ := V.five
      have hC := eCheck_any x.la x.n x.k x.g Ax mx cx w2 hxla
      rw [hck] at hC
      go_wp2_with fail
      refine hC.mono ?_
      clear hC v0 v1 v2 v3 v4
      rintro e w3 ⟨rfl, b3⟩
      replace V := V.under b3
      replace h := h.below b3
      replace bb := bb.trans (b3.mono bb.size)
      clear b3
      obtain ⟨v0, v1, v2, v3, v4, _⟩ := V.five
      go_wp2_with fail
      refine (hK w3 h).mono ?_
      clear hK v0 v1 v2 v3 v4
      rintro e w4 ⟨A4, n4, c4, hn4, rfl, R4, b4⟩
      have hs := bb.size
      go_wp2
      refine retM rfl ?_
      exact ⟨A4, n4, c4, hn4, rfl, (rq_rs R4).imp (fun y _ hy => by omega), bb.trans (b4.mono bb.size)⟩
end Go.Proofs.Ytepaojegcaapfaa
