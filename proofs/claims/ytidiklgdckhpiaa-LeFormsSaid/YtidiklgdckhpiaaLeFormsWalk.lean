/-
  The walk of LeForms.
-/
import Derived.Test.YtidiklgdckhpiaaLeWideWalk
import Derived.Deep.RegionLaw
namespace Go.Proofs.Ytidiklgdckhpiaa
open Go.RowKit Go.Wag
set_option linter.unusedVariables false
attribute [local go_sem ↓] Go.wp_at_zero Go.wp_at_succ

/-- 'append' as one step of a region that draws its order. -/
theorem step_app {P : Program} {base : Nat} {e : TypeId} {w0 w : World} {v0 v : Value} {n : Nat} {xs : List Value} {ops : Array Oper} {o : Oper} {a : Act} {K : Act → World → Prop} {Q : Exit → Act → World → Prop} {E : Prop}
    (hw : Region.wanted o (yielded ops a.tmps) = true) (s x : Operand) (t : TypeId)
    (ho : o.op = .call { callee := .builtin .append, args := #[s, x], argTypes := #[t, t] }) (hs : a.eval s = v) (h : Own base e w0 w v0 v n xs)
    (i : TypeInfo) (z : Value) (bytes : Nat) (ht : P.underlying t = some (.slice e)) (hi : P.info? e = some i) (hz : i.zero = some z)
    (hsize : i.size = 1) (hby : i.bytes = bytes) (hzs : z.cells.size = 1) (A : Option Addr) (m c : Nat) (news : List Value) (hx : a.eval x = .slice A m c) (hsl : Sl w A m c news) (h1 : ∀ u ∈ news, u.oneCell' = true)
    (hbytes : (n + m) * bytes ≤ 140737488355328) (h63 : n + m ≤ 9223372036854775807)
    (hgo : ∀ A' c' w', Own base e w0 w' v0 (.slice A' (n + m) c') (n + m) (xs ++ news) → K (a.put o.dst (.slice A' (n + m) c')) w') :
    if Region.wanted o (yielded ops a.tmps) = true then Oper.wp P o a w K Q else E := by
  rw [if_pos hw]
  obtain ⟨A', c', w', hr, h2⟩ := run_app (P := P) h t o.type i z bytes ht hi hz hsize hby hzs A m c news hsl h1 hbytes h63
  unfold Oper.wp execOp
  simp only [ho, resolve, invoke, builtin, Sem.run_bind, Sem.run_pure, Result.andThen_ok, List.map_toArray, List.map_cons, List.map_nil, hs, hx, hr]
  exact hgo A' c' w' h2

theorem packF_append : ∀ (a : List UInt8) (ns : List UInt64) (p b : List UInt8) (ms : List UInt64) (q : List UInt8), packF a ns = some p → packF b ms = some q → packF (a ++ b) (ns ++ ms) = some (p ++ q)
  | [], [], p, b, ms, q, h, hq => by
    obtain rfl : [] = p := by simpa [packF] using h
    simpa using hq
  | [], _ :: _, _, _, _, _, h, _ => by simp [packF] at h
  | _ :: _, [], _, _, _, _, h, _ => by simp [packF] at h
  | c :: r, n :: ns, p, b, ms, q, h, hq => by
    simp only [packF] at h
    split at h
    · cases h
    · rename_i hd
      obtain ⟨u, hu, rfl⟩ := Option.map_eq_some_iff.1 h
      simp only [List.cons_append, packF, hd, if_false, packF_append r ns u b ms q hu hq]
      simp
theorem form_append (a b : ByteArray) : (a ++ b).data.toList = a.data.toList ++ b.data.toList := by simp

set_option maxRecDepth 100000 in
set_option maxHeartbeats 4000000 in
theorem LeForms_walk (a0 : ByteArray) (a1 : Option Addr) (len1 cap1 : Nat) (z1 : List Int) (a2 : ByteArray) (a3 : Option Addr) (len3 cap3 : Nat) (z3 : List Int) (w : World) (w0 : a0.size ≤ maxLen) (w1 : IsRow .u64 w a1 len1 cap1 z1) (w2 : a2.size ≤ maxLen) (w3 : IsRow .u64 w a3 len3 cap3 z3) :
    Calls Try.prog 7 #[.string a0, .slice a1 len1 cap1, .string a2, .slice a3 len3 cap3] w (AwakePost w) := by
  obtain ⟨xs, s1⟩ := w1.nums
  obtain ⟨ys, s3⟩ := w3.nums
  clear w0 w1 w2 w3
  by_cases g1 : (60 : Int) < (a0.size : Int)
  · go_enter Try.func7, Try.ntmps7
    go_wp2_with fail
    refine (awake_any _).mono ?_
    rintro e w1 ⟨rfl, b1⟩
    go_wp2
    go_ret
    exact ⟨rfl, b1⟩
  by_cases g2 : (60 : Int) < (a2.size : Int)
  · go_enter Try.func7, Try.ntmps7
    go_wp2_with fail
    refine (awake_any _).mono ?_
    rintro e w1 ⟨rfl, b1⟩
    go_wp2
    go_ret
    exact ⟨rfl, b1⟩
  by_cases g3 : (60 : Int) < (len1 : Int)
  · go_enter Try.func7, Try.ntmps7
    go_wp2_with fail
    refine (awake_any _).mono ?_
    rintro e w1 ⟨rfl, b1⟩
    go_wp2
    go_ret
    exact ⟨rfl, b1⟩
  by_cases g4 : (60 : Int) < (len3 : Int)
  · go_enter Try.func7, Try.ntmps7
    go_wp2_with fail
    refine (awake_any _).mono ?_
    rintro e w1 ⟨rfl, b1⟩
    go_wp2
    go_ret
    exact ⟨rfl, b1⟩
  go_enter Try.func7, Try.ntmps7
  go_wp2_with fail
  refine (awake_any _).mono ?_
  rintro e w1 ⟨rfl, b1⟩
  replace s1 := s1.below b1
  replace s3 := s3.below b1
  go_wp2_with fail
  cases hp : packF a0.data.toList xs with
  | none =>
    refine (BytesErr.no (Pack_any _ _ _ _ xs _ s1 (by omega)) hp).mono ?_
    rintro e w2 ⟨A2, n2, c2, rfl, t2, f2, b2⟩
    clear hp
    have s12 := s1.below b2
    have s32 := s3.below b2
    go_wp2_with fail
    refine (Pack_any _ _ _ _ ys _ s32 (by omega)).mono ?_
    rintro e w3 ⟨A3, n3, c3, rfl, t3, f3, b3⟩
    have s13 := s12.below b3
    have s33 := s32.below b3
    clear t2 f2 t3 f3 s12 s32 s1 s3
    obtain ⟨i0, hi, hz0, hz1, hz2⟩ := info_parts i23
    have HO := Own.empty w3 23
    have hss : (a0 ++ a2).size ≤ 120 := by rw [ByteArray.size_append]; omega
    go_wp2_with (at_builtin; refine wpList_app rfl (.tmp 54) (.tmp 55) 31 rfl rfl HO i0 (.int .u64 0) 8 Try.underlying31 hi hz0 hz1 hz2 rfl _ _ _ _ rfl (s13.alloc _) (oneCell64 _) ?_ ?_ ?_)
    · omega
    · omega
    intro A4 c4 w4 hw4
    have s34 := s33.below hw4.below_made
    go_wp2_with (at_builtin; refine wpList_app rfl (.tmp 56) (.tmp 57) 31 rfl rfl hw4 i0 (.int .u64 0) 8 Try.underlying31 hi hz0 hz1 hz2 rfl _ _ _ _ rfl s34 (oneCell64 _) ?_ ?_ ?_)
    · omega
    · omega
    intro A5 c5 w5 hw5
    rw [← List.map_append] at hw5
    have b5 := hw5.below_made
    go_wp2_with fail
    refine (Pack_any _ _ _ _ (xs ++ ys) _ hw5.to_sl (by omega)).mono ?_
    rintro e w6 ⟨A6, n6, c6, rfl, t6, f6, b6⟩
    clear hw4 s34 HO hw5 t6 f6
    go_wp2
    go_ret
    have bb := (b1.trans (b2.mono b1.size)).trans (b3.mono (b1.trans (b2.mono b1.size)).size)
    exact ⟨rfl, (bb.trans (b5.mono bb.size)).trans (b6.mono (bb.trans (b5.mono bb.size)).size)⟩
  | some pb =>
    refine (BytesErr.ok (Pack_any _ _ _ _ xs _ s1 (by omega)) hp).mono ?_
    rintro e w2 ⟨A2, n2, c2, rfl, t2, f2, b2⟩
    have s12 := s1.below b2
    have s32 := s3.below b2
    go_wp2_with fail
    cases hq : packF a2.data.toList ys with
    | none =>
      refine (BytesErr.no (Pack_any _ _ _ _ ys _ s32 (by omega)) hq).mono ?_
      rintro e w3 ⟨A3, n3, c3, rfl, t3, f3, b3⟩
      clear hq hp
      have s13 := s12.below b3
      have s33 := s32.below b3
      clear t2 f2 t3 f3 s12 s32 s1 s3
      obtain ⟨i0, hi, hz0, hz1, hz2⟩ := info_parts i23
      have HO := Own.empty w3 23
      have hss : (a0 ++ a2).size ≤ 120 := by rw [ByteArray.size_append]; omega
      go_wp2_with (at_builtin; refine wpList_app rfl (.tmp 54) (.tmp 55) 31 rfl rfl HO i0 (.int .u64 0) 8 Try.underlying31 hi hz0 hz1 hz2 rfl _ _ _ _ rfl (s13.alloc _) (oneCell64 _) ?_ ?_ ?_)
      · omega
      · omega
      intro A4 c4 w4 hw4
      have s34 := s33.below hw4.below_made
      go_wp2_with (at_builtin; refine wpList_app rfl (.tmp 56) (.tmp 57) 31 rfl rfl hw4 i0 (.int .u64 0) 8 Try.underlying31 hi hz0 hz1 hz2 rfl _ _ _ _ rfl s34 (oneCell64 _) ?_ ?_ ?_)
      · omega
      · omega
      intro A5 c5 w5 hw5
      rw [← List.map_append] at hw5
      have b5 := hw5.below_made
      go_wp2_with fail
      refine (Pack_any _ _ _ _ (xs ++ ys) _ hw5.to_sl (by omega)).mono ?_
      rintro e w6 ⟨A6, n6, c6, rfl, t6, f6, b6⟩
      clear hw4 s34 HO hw5 t6 f6
      go_wp2
      go_ret
      have bb := (b1.trans (b2.mono b1.size)).trans (b3.mono (b1.trans (b2.mono b1.size)).size)
      exact ⟨rfl, (bb.trans (b5.mono bb.size)).trans (b6.mono (bb.trans (b5.mono bb.size)).size)⟩
    | some qb =>
      refine (BytesErr.ok (Pack_any _ _ _ _ ys _ s32 (by omega)) hq).mono ?_
      rintro e w3 ⟨A3, n3, c3, rfl, t3, f3, b3⟩
      have HP := Lib.hid (packF_append _ _ _ _ _ _ hp hq)
      have HPl := Lib.hid (packF_le _ _ _ hp)
      have HQl := Lib.hid (packF_le _ _ _ hq)
      clear hp hq
      have s13 := s12.below b3
      have s33 := s32.below b3
      obtain ⟨i0, hi, hz0, hz1, hz2⟩ := info_parts i23
      have HO := Own.empty w3 23
      have hss : (a0 ++ a2).size ≤ 120 := by rw [ByteArray.size_append]; omega
      go_wp2_with (at_builtin; refine wpList_app rfl (.tmp 54) (.tmp 55) 31 rfl rfl HO i0 (.int .u64 0) 8 Try.underlying31 hi hz0 hz1 hz2 rfl _ _ _ _ rfl (s13.alloc _) (oneCell64 _) ?_ ?_ ?_)
      · omega
      · omega
      intro A4 c4 w4 hw4
      have s34 := s33.below hw4.below_made
      go_wp2_with (at_builtin; refine wpList_app rfl (.tmp 56) (.tmp 57) 31 rfl rfl hw4 i0 (.int .u64 0) 8 Try.underlying31 hi hz0 hz1 hz2 rfl _ _ _ _ rfl s34 (oneCell64 _) ?_ ?_ ?_)
      · omega
      · omega
      intro A5 c5 w5 hw5
      rw [← List.map_append] at hw5
      have b5 := hw5.below_made
      go_wp2_with fail
      refine (BytesErr.ok (Pack_any _ _ _ _ (xs ++ ys) _ hw5.to_sl (by omega)) (by rw [form_append]; exact HP.out)).mono ?_
      rintro e w6 ⟨A6, n6, c6, rfl, t6, f6, b6⟩
      clear hw4 s34 HO hw5
      go_wp2_with fail
      refine (NumsErr.ok (Unpack_any _ _ _ _ (pb ++ qb) _ t6 (by omega)) (by rw [form_append]; exact unpack_pack _ _ _ HP.out)).mono ?_
      rintro e w7 ⟨A7, n7, c7, rfl, t7, f7, b7⟩
      obtain ⟨i8, hi8, hy0, hy1, hy2⟩ := info_parts i5
      have hn2 : n2 ≤ 1000 := by
        have h1 := t2.len8
        have h2 := fsum_le _ _ HPl.out
        have h3 : a0.data.toList.length = a0.size := by simp
        omega
      have hn3 : n3 ≤ 1000 := by
        have h1 := t3.len8
        have h2 := fsum_le _ _ HQl.out
        have h3 : a2.data.toList.length = a2.size := by simp
        omega
      have hn7 : n7 ≤ 100000000000 := by
        have h1 := t7.len64
        have h2 := s1.len64
        have h3 := s3.len64
        rw [List.length_append] at h1
        omega
      have b57 : Below w5.heap.size w5 w7 := b6.trans (b7.mono b6.size)
      have b37 : Below w3.heap.size w3 w7 := b5.trans (b57.mono b5.size)
      have b27 : Below w2.heap.size w2 w7 := b3.trans (b37.mono b3.size)
      have b17 : Below w1.heap.size w1 w7 := b2.trans (b27.mono b2.size)
      have P5 : Nw 5 w1 w5 A2 n2 c2 (pb.map v8) := f2.below (b3.trans (b5.mono b3.size))
      have P6 : Nw 5 w1 w6 A2 n2 c2 (pb.map v8) := P5.below b6
      have P7 : Nw 5 w1 w7.drew A2 n2 c2 (pb.map v8) := World.ownsRow.drew (P6.below b7)
      have OP8 := Own.start P7 (show w1.heap.size ≤ w7.drew.heap.size from b17.size)
      have q7 := (t3.below b37).drew
      have r7 := (t6.below b7).drew
      have l7 := t7.drew
      have qr7 := str_of r7
      have bd7 : Below w1.heap.size w1 w7.drew := b17.drew
      clear t2 t3 t6 b57 b37 b27 b3 b5 b6 b7 s12 s32 s13 s33
      go_wp2_with fail
      refine wp_region_held_drew (S := fun w' => (convert 22 9 (.slice A6 n6 c6)).run Try.prog w' = .ok (.string ⟨(pb ++ qb).toArray⟩) w') (by kernel_rfl) qr7 (fun hHeld => ?_)
      refine wpAnyH_take (i := 0) (v := ?_) (by simp only [List.getElem?_toArray, List.getElem?_cons_zero]; rfl) (by kernel_rfl) (by kernel_rfl) (by kernel_rfl) (by intro _ _ _ h; exact h) (Or.inl ⟨by rfl, ?_⟩) hHeld ?_
      rotate_left 1
      · intro wq hSw
        try dsimp only at hSw
        go_simp
        try (with_reducible rfl)
      try simp only [Act.put, List.setIfInBounds_toArray, List.set_cons_zero, List.set_cons_succ]
      refine wpAnyH_take (i := 1) (v := ?_) (by simp only [List.getElem?_toArray, List.getElem?_cons_succ, List.getElem?_cons_zero]; rfl) (by kernel_rfl) (by kernel_rfl) (by kernel_rfl) (by intro _ _ _ h; exact h) (Or.inl ⟨by rfl, ?_⟩) hHeld ?_
      rotate_left 1
      · intro wq hSw
        try dsimp only at hSw
        go_simp
        try (with_reducible rfl)
      try simp only [Act.put, List.setIfInBounds_toArray, List.set_cons_zero, List.set_cons_succ]
      refine wpAnyH_take (i := 2) (v := ?_) (by simp only [List.getElem?_toArray, List.getElem?_cons_succ, List.getElem?_cons_zero]; rfl) (by kernel_rfl) (by kernel_rfl) (by kernel_rfl) (by intro _ _ _ h; exact h) (Or.inl ⟨by rfl, ?_⟩) hHeld ?_
      rotate_left 1
      · intro wq hSw
        try dsimp only at hSw
        go_simp
        try (with_reducible rfl)
      try simp only [Act.put, List.setIfInBounds_toArray, List.set_cons_zero, List.set_cons_succ]
      refine wpAnyH_take (i := 3) (v := ?_) (by simp only [List.getElem?_toArray, List.getElem?_cons_succ, List.getElem?_cons_zero]; rfl) (by kernel_rfl) (by kernel_rfl) (by kernel_rfl) (by intro _ _ _ h; exact h) (Or.inl ⟨by rfl, ?_⟩) hHeld ?_
      rotate_left 1
      · intro wq hSw
        try dsimp only at hSw
        go_simp
        try (with_reducible rfl)
      try simp only [Act.put, List.setIfInBounds_toArray, List.set_cons_zero, List.set_cons_succ]
      refine wpAnyH_take (i := 4) (v := ?_) (by simp only [List.getElem?_toArray, List.getElem?_cons_succ, List.getElem?_cons_zero]; rfl) (by kernel_rfl) (by kernel_rfl) (by kernel_rfl) (by intro _ _ _ h; exact h) (Or.inl ⟨by rfl, ?_⟩) hHeld ?_
      rotate_left 1
      · intro wq hSw
        try dsimp only at hSw
        go_simp
        try (with_reducible rfl)
      try simp only [Act.put, List.setIfInBounds_toArray, List.set_cons_zero, List.set_cons_succ]
      refine wpAnyH_take (i := 5) (v := ?_) (by simp only [List.getElem?_toArray, List.getElem?_cons_succ, List.getElem?_cons_zero]; rfl) (by kernel_rfl) (by kernel_rfl) (by kernel_rfl) (by intro _ _ _ h; exact h) (Or.inl ⟨by rfl, ?_⟩) hHeld ?_
      rotate_left 1
      · intro wq hSw
        try dsimp only at hSw
        go_simp
        try (with_reducible rfl)
      try simp only [Act.put, List.setIfInBounds_toArray, List.set_cons_zero, List.set_cons_succ]
      refine wpAnyH_take (i := 6) (v := ?_) (by simp only [List.getElem?_toArray, List.getElem?_cons_succ, List.getElem?_cons_zero]; rfl) (by kernel_rfl) (by kernel_rfl) (by kernel_rfl) (by intro _ _ _ h; exact h) (Or.inl ⟨by rfl, ?_⟩) hHeld ?_
      rotate_left 1
      · intro wq hSw
        try dsimp only at hSw
        go_simp
        try (with_reducible rfl)
      try simp only [Act.put, List.setIfInBounds_toArray, List.set_cons_zero, List.set_cons_succ]
      refine wpAnyH_take (i := 7) (v := ?_) (by simp only [List.getElem?_toArray, List.getElem?_cons_succ, List.getElem?_cons_zero]; rfl) (by kernel_rfl) (by kernel_rfl) (by kernel_rfl) (by intro _ _ _ h; exact h) (Or.inl ⟨by rfl, ?_⟩) hHeld ?_
      rotate_left 1
      · intro wq hSw
        try dsimp only at hSw
        go_simp
        try (with_reducible rfl)
      try simp only [Act.put, List.setIfInBounds_toArray, List.set_cons_zero, List.set_cons_succ]
      refine wpAnyH_take (i := 8) (v := ?_) (by simp only [List.getElem?_toArray, List.getElem?_cons_succ, List.getElem?_cons_zero]; rfl) (by kernel_rfl) (by kernel_rfl) (by kernel_rfl) (by intro _ _ _ h; exact h) (Or.inl ⟨by rfl, ?_⟩) hHeld ?_
      rotate_left 1
      · intro wq hSw
        try dsimp only at hSw
        go_simp
        try (with_reducible rfl)
      try simp only [Act.put, List.setIfInBounds_toArray, List.set_cons_zero, List.set_cons_succ]
      refine wpAnyH_take (i := 9) (v := ?_) (by simp only [List.getElem?_toArray, List.getElem?_cons_succ, List.getElem?_cons_zero]; rfl) (by kernel_rfl) (by kernel_rfl) (by kernel_rfl) (by intro _ _ _ h; exact h) (Or.inl ⟨by rfl, ?_⟩) hHeld ?_
      rotate_left 1
      · intro wq hSw
        try dsimp only at hSw
        go_simp
        try (with_reducible rfl)
      try simp only [Act.put, List.setIfInBounds_toArray, List.set_cons_zero, List.set_cons_succ]
      refine wpAnyH_ready (rs := [10]) (by kernel_rfl) (by simp) ?_
      refine AllReadyH.cons (by simp only [List.getElem?_toArray, List.getElem?_cons_succ, List.getElem?_cons_zero]; rfl) (fun K hK => ?_) AllReadyH.nil
      refine step_app (by rfl) (.tmp 85) (.tmp 86) 22 (by rfl) (by rfl) OP8 i8 (.int .u8 0) 1 Try.underlying22 hi8 hy0 hy1 hy2 rfl _ _ _ _ (by rfl) q7 (oneCell8 _) (by omega) (by omega) ?_
      intro A8 c8 w8 hw8
      rw [← List.map_append] at hw8
      have q8 := str_of hw8.to_sl
      have r8 := r7.apart f6.fr P5 hw8
      have l8 := l7.apart f7.fr P6 hw8
      have b8 := hw8.below bd7 bd7.size (fun k hk => (World.ownsRow.lt P7 k hk).1)
      have x8 := s1.below b8
      have y8 := s3.below b8
      have HO8 := Own.empty w8 23
      refine hK.out _ _ (str_of r8) (fun hHeld => ?_)
      clear hK K
      try simp only [Act.put, List.setIfInBounds_toArray, List.set_cons_zero, List.set_cons_succ]
      refine wpAnyH_ready (rs := [11]) (by kernel_rfl) (by simp) ?_
      refine AllReadyH.cons (by simp only [List.getElem?_toArray, List.getElem?_cons_succ, List.getElem?_cons_zero]; rfl) (fun K hK => ?_) AllReadyH.nil
      go_simp
      refine hK.out _ _ (str_of r8) (fun hHeld => ?_)
      clear hK K
      try simp only [Act.put, List.setIfInBounds_toArray, List.set_cons_zero, List.set_cons_succ]
      refine wpAnyH_take (i := 12) (v := ?_) (by simp only [List.getElem?_toArray, List.getElem?_cons_succ, List.getElem?_cons_zero]; rfl) (by kernel_rfl) (by kernel_rfl) (by kernel_rfl) (by intro _ _ _ h; exact h) (Or.inl ⟨by rfl, ?_⟩) hHeld ?_
      rotate_left 1
      · intro wq hSw
        try dsimp only at hSw
        go_simp
        try (with_reducible rfl)
      try simp only [Act.put, List.setIfInBounds_toArray, List.set_cons_zero, List.set_cons_succ]
      refine wpAnyH_take (i := 13) (v := ?_) (by simp only [List.getElem?_toArray, List.getElem?_cons_succ, List.getElem?_cons_zero]; rfl) (by kernel_rfl) (by kernel_rfl) (by kernel_rfl) (by intro _ _ _ h; exact h) (Or.inl ⟨by rfl, ?_⟩) hHeld ?_
      rotate_left 1
      · intro wq hSw
        try dsimp only at hSw
        go_simp
        try (with_reducible rfl)
      try simp only [Act.put, List.setIfInBounds_toArray, List.set_cons_zero, List.set_cons_succ]
      refine wpAnyH_take (i := 14) (v := ?_) (by simp only [List.getElem?_toArray, List.getElem?_cons_succ, List.getElem?_cons_zero]; rfl) (by kernel_rfl) (by kernel_rfl) (by kernel_rfl) (by intro _ _ _ h; exact h) (Or.inl ⟨by rfl, ?_⟩) hHeld ?_
      rotate_left 1
      · intro wq hSw
        try dsimp only at hSw
        go_simp
        try (with_reducible rfl)
      try simp only [Act.put, List.setIfInBounds_toArray, List.set_cons_zero, List.set_cons_succ]
      refine wpAnyH_take (i := 15) (v := ?_) (by simp only [List.getElem?_toArray, List.getElem?_cons_succ, List.getElem?_cons_zero]; rfl) (by kernel_rfl) (by kernel_rfl) (by kernel_rfl) (by intro _ _ _ h; exact h) (Or.inl ⟨by rfl, ?_⟩) hHeld ?_
      rotate_left 1
      · intro wq hSw
        try dsimp only at hSw
        go_simp
        try (with_reducible rfl)
      try simp only [Act.put, List.setIfInBounds_toArray, List.set_cons_zero, List.set_cons_succ]
      refine wpAnyH_take (i := 16) (v := ?_) (by simp only [List.getElem?_toArray, List.getElem?_cons_succ, List.getElem?_cons_zero]; rfl) (by kernel_rfl) (by kernel_rfl) (by kernel_rfl) (by intro _ _ _ h; exact h) (Or.inl ⟨by rfl, ?_⟩) hHeld ?_
      rotate_left 1
      · intro wq hSw
        try dsimp only at hSw
        go_simp
        try (with_reducible rfl)
      try simp only [Act.put, List.setIfInBounds_toArray, List.set_cons_zero, List.set_cons_succ]
      refine wpAnyH_take (i := 17) (v := ?_) (by simp only [List.getElem?_toArray, List.getElem?_cons_succ, List.getElem?_cons_zero]; rfl) (by kernel_rfl) (by kernel_rfl) (by kernel_rfl) (by intro _ _ _ h; exact h) (Or.inl ⟨by rfl, ?_⟩) hHeld ?_
      rotate_left 1
      · intro wq hSw
        try dsimp only at hSw
        go_simp
        try (with_reducible rfl)
      try simp only [Act.put, List.setIfInBounds_toArray, List.set_cons_zero, List.set_cons_succ]
      refine wpAnyH_take (i := 18) (v := ?_) (by simp only [List.getElem?_toArray, List.getElem?_cons_succ, List.getElem?_cons_zero]; rfl) (by kernel_rfl) (by kernel_rfl) (by kernel_rfl) (by intro _ _ _ h; exact h) (Or.inl ⟨by rfl, ?_⟩) hHeld ?_
      rotate_left 1
      · intro wq hSw
        try dsimp only at hSw
        go_simp
        try (with_reducible rfl)
      try simp only [Act.put, List.setIfInBounds_toArray, List.set_cons_zero, List.set_cons_succ]
      refine wpAnyH_take (i := 19) (v := ?_) (by simp only [List.getElem?_toArray, List.getElem?_cons_succ, List.getElem?_cons_zero]; rfl) (by kernel_rfl) (by kernel_rfl) (by kernel_rfl) (by intro _ _ _ h; exact h) (Or.inl ⟨by rfl, ?_⟩) hHeld ?_
      rotate_left 1
      · intro wq hSw
        try dsimp only at hSw
        go_simp
        try (with_reducible rfl)
      try simp only [Act.put, List.setIfInBounds_toArray, List.set_cons_zero, List.set_cons_succ]
      refine wpAnyH_take (i := 21) (v := ?_) (by simp only [List.getElem?_toArray, List.getElem?_cons_succ, List.getElem?_cons_zero]; rfl) (by kernel_rfl) (by kernel_rfl) (by kernel_rfl) (by intro _ _ _ h; exact h) (Or.inl ⟨by rfl, ?_⟩) hHeld ?_
      rotate_left 1
      · intro wq hSw
        try dsimp only at hSw
        go_simp
        try (with_reducible rfl)
      try simp only [Act.put, List.setIfInBounds_toArray, List.set_cons_zero, List.set_cons_succ]
      refine wpAnyH_take (i := 23) (v := ?_) (by simp only [List.getElem?_toArray, List.getElem?_cons_succ, List.getElem?_cons_zero]; rfl) (by kernel_rfl) (by kernel_rfl) (by kernel_rfl) (by intro _ _ _ h; exact h) (Or.inl ⟨by rfl, ?_⟩) hHeld ?_
      rotate_left 1
      · intro wq hSw
        try dsimp only at hSw
        go_simp
        try (with_reducible rfl)
      try simp only [Act.put, List.setIfInBounds_toArray, List.set_cons_zero, List.set_cons_succ]
      refine wpAnyH_ready (rs := [20]) (by kernel_rfl) (by simp) ?_
      refine AllReadyH.cons (by simp only [List.getElem?_toArray, List.getElem?_cons_succ, List.getElem?_cons_zero]; rfl) (fun K hK => ?_) AllReadyH.nil
      go_simp
      refine hK.out _ _ (str_of (r8.alloc _)) (fun hHeld => ?_)
      clear hK K
      try simp only [Act.put, List.setIfInBounds_toArray, List.set_cons_zero, List.set_cons_succ]
      refine wpAnyH_ready (rs := [22]) (by kernel_rfl) (by simp) ?_
      refine AllReadyH.cons (by simp only [List.getElem?_toArray, List.getElem?_cons_succ, List.getElem?_cons_zero]; rfl) (fun K hK => ?_) AllReadyH.nil
      refine step_app (by rfl) (.tmp 97) (.tmp 98) 31 (by rfl) (by rfl) HO8 i0 (.int .u64 0) 8 Try.underlying31 hi hz0 hz1 hz2 rfl _ _ _ _ (by rfl) (x8.alloc _) (oneCell64 _) (by omega) (by omega) ?_
      simp only [Nat.zero_add, List.nil_append]
      intro A9 c9 w9 hw9
      have y9 := y8.below hw9.below_made
      refine hK.out _ _ (str_of (r8.below hw9.below_made)) (fun hHeld => ?_)
      clear hK K
      try simp only [Act.put, List.setIfInBounds_toArray, List.set_cons_zero, List.set_cons_succ]
      refine wpAnyH_ready (rs := [24]) (by kernel_rfl) (by simp) ?_
      refine AllReadyH.cons (by simp only [List.getElem?_toArray, List.getElem?_cons_succ, List.getElem?_cons_zero]; rfl) (fun K hK => ?_) AllReadyH.nil
      refine step_app (by rfl) (.tmp 99) (.tmp 100) 31 (by rfl) (by rfl) hw9 i0 (.int .u64 0) 8 Try.underlying31 hi hz0 hz1 hz2 rfl _ _ _ _ (by rfl) y9 (oneCell64 _) (by omega) (by omega) ?_
      intro A10 c10 w10 hw10
      have l10 := l8.below hw10.below_made
      refine hK.out _ _ (str_of (r8.below hw10.below_made)) (fun hHeld => ?_)
      clear hK K
      try simp only [Act.put, List.setIfInBounds_toArray, List.set_cons_zero, List.set_cons_succ]
      refine wpAnyH_ready (rs := [25]) (by kernel_rfl) (by simp) ?_
      refine AllReadyH.cons (by simp only [List.getElem?_toArray, List.getElem?_cons_succ, List.getElem?_cons_zero]; rfl) (fun K hK => ?_) AllReadyH.nil
      go_simp
      refine (Same_eq _ _ _ _ _ _ _ _ l10 (by rw [List.map_append]; exact hw10.to_sl) hn7).mono ?_
      rintro e w11 ⟨rfl, b11⟩
      go_wp2_with fail
      refine hK.out _ _ (str_of ((r8.below hw10.below_made).below b11)) (fun hHeld => ?_)
      clear hK K
      try simp only [Act.put, List.setIfInBounds_toArray, List.set_cons_zero, List.set_cons_succ]
      refine wpAnyH_take (i := 26) (v := ?_) (by simp only [List.getElem?_toArray, List.getElem?_cons_succ, List.getElem?_cons_zero]; rfl) (by kernel_rfl) (by kernel_rfl) (by kernel_rfl) (by intro _ _ _ h; exact h) (Or.inl ⟨by rfl, ?_⟩) hHeld ?_
      rotate_left 1
      · intro wq hSw
        try dsimp only at hSw
        go_simp
        try (with_reducible rfl)
      try simp only [Act.put, List.setIfInBounds_toArray, List.set_cons_zero, List.set_cons_succ]
      refine wpAnyH_take (i := 27) (v := ?_) (by simp only [List.getElem?_toArray, List.getElem?_cons_succ, List.getElem?_cons_zero]; rfl) (by kernel_rfl) (by kernel_rfl) (by kernel_rfl) (by intro _ _ _ h; exact h) (Or.inl ⟨by rfl, ?_⟩) hHeld ?_
      rotate_left 1
      · intro wq hSw
        try dsimp only at hSw
        go_simp
        try (with_reducible rfl)
      try simp only [Act.put, List.setIfInBounds_toArray, List.set_cons_zero, List.set_cons_succ]
      refine wpAnyH_done (by kernel_rfl) ?_ _
      go_wp2
      go_ret
      have b10 := hw10.below_made
      have b1w := b1.trans (b8.mono b1.size)
      exact ⟨rfl, b1w.trans ((b10.trans (b11.mono b10.size)).mono b1w.size)⟩
end Go.Proofs.Ytidiklgdckhpiaa
