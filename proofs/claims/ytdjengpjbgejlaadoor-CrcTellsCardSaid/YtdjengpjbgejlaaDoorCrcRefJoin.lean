/-
  Contract of the document's Join.
-/
import Derived.Test.YtdjengpjbgejlaaDoorCrcRef
import Derived.Test.YtdjengpjbgejlaaDoorArr
import Derived.Lib.SmallJoins
namespace Go.Proofs.YtdjengpjbgejlaaDoor
open Go.RowKit Go.Wag
set_option linter.unusedVariables false

def pcols (M k : Nat) : List W32 := (List.range k).map (fun j => steps M (1#32 <<< j)) ++ List.replicate (32 - k) 0#32
theorem pcols_len (M k : Nat) (hk : k ≤ 32) : (pcols M k).length = 32 := by simp [pcols]; omega
theorem pcols_set (M k : Nat) (hk : k < 32) : (pcols M k).set k (steps M (1#32 <<< k)) = pcols M (k + 1) := by
  unfold pcols
  rw [List.set_append_right _ _ (by simp), show 32 - k = (32 - (k + 1)) + 1 by omega, List.replicate_succ]
  simp [List.range_succ]
theorem pcols_at (M i : Nat) (hi : i < 32) : colOf (pcols M 32) i = steps M (1#32 <<< i) := by
  simp [colOf, pcols, hi]
theorem colF_congr {m m' : Nat → W32} : ∀ (n : Nat) (v : W32), (∀ i, i < n → m i = m' i) → colF m n v = colF m' n v
  | 0, _, _ => rfl
  | n + 1, v, h => by rw [colF, colF, colF_congr n v (fun i hi => h i (by omega)), h n (by omega)]
theorem col_steps (M : Nat) (v : W32) : colF (colOf (pcols M 32)) 32 v = steps M v := by
  rw [colF_congr 32 v (fun i hi => pcols_at M i hi), colF_all]
theorem Arr.set {w : World} {g : Nat} {cs : List W32} (h : Arr w g cs) (k : Nat) (x : W32) : Arr (w.setCell ⟨g, k, none⟩ (.int .u32 (x.toNat : Int))) g (cs.set k x) := by
  have := Joins.block_setCell (i := k) h (.int .u32 (x.toNat : Int))
  unfold Arr
  rw [this, List.map_set]
  congr 2
  simp [v32]
theorem Arr.other {w : World} {g g' k : Nat} {cs : List W32} {v : Value} (h : Arr w g cs) (hne : g ≠ g') : Arr (w.setCell ⟨g', k, none⟩ v) g cs := by
  unfold Arr
  rw [heap_setCell_other w ⟨g', k, none⟩ g v hne]
  exact h
theorem Arr.below {w w' : World} {g : Nat} {cs : List W32} (h : Arr w g cs) (hb : Below w.heap.size w w') : Arr w' g cs :=
  (hb.block g (Array.getElem?_eq_some_iff.1 h).1).trans h
theorem Arr.lt {w : World} {g : Nat} {cs : List W32} (h : Arr w g cs) : g < w.heap.size := (Array.getElem?_eq_some_iff.1 h).1
theorem Arr.frozen {w : World} {g : Nat} {cs : List W32} (h : Arr w g cs) (k : Nat) : w.frozen? ⟨g, k, none⟩ = false := Joins.unfrozen_of_block h k

theorem exec_load_row {P : Program} {ρ : Operand → Value} {o : Oper} {w : World} (hgd : o.guard = none) (ty : TypeId) (x : Operand) (ho : o.op = .load ty x)
    (g : Nat) (hx : ρ x = .pointer (some ⟨g, 0, none⟩)) (t : TypeId) (cs : Array Value) (fr : Nat × Nat) (d : TypeDesc) (hg : w.heap[g]? = some (.cells cs t fr))
    (hu : P.underlying ty = some d) (hd : (match d with | .struct _ | .array _ _ => true | _ => false) = true) (hi : (P.info? ty).map (·.size) = some cs.size) : (execOp ρ o).run P w = .ok (.value (.agg cs)) w := by
  unfold execOp
  simp only [ho, hx, Instr.loadAt, Instr.sureAddr, Sem.run_bind, Sem.run_pure, Result.andThen_ok, run_loadVar_row w g t ty cs fr d hg hu hd hi]

/-- Thirty-two noughts. -/
def zero32 : Array Value := ((List.replicate 32 0#32).map v32).toArray
theorem zero_build (W : World) : (Instr.build 45 #[]).run Tryd.prog W = .ok (.agg zero32) W := by kernel_rfl
theorem zero_alloc (W : World) : (Instr.alloc 45 true (.tuple #[])).run Tryd.prog W = .ok (.pointer (some ⟨W.heap.size, 0, none⟩)) (W.alloc (.cells zero32 45)) := by kernel_rfl
theorem size45 : (Tryd.prog.info? 45).map (·.size) = some 32 := by kernel_rfl
theorem size_zero32 : (Tryd.prog.info? 45).map (·.size) = some zero32.size := by kernel_rfl
theorem one32 (cs : List W32) : (cs.map v32).toArray.all (·.oneCell') = true := by
  rw [Array.all_eq_true_iff_forall_mem]
  intro v hv
  obtain ⟨x, _, rfl⟩ := List.mem_map.1 (by simpa using hv)
  rfl
theorem one_zero32 : zero32.all (·.oneCell') = true := one32 _
theorem shl1_32 (k : Nat) (h : k < 32) : (2 : Int) ^ k % 4294967296 = ((1#32 <<< k).toNat : Int) := by
  have : ∀ i : Fin 32, (2 : Int) ^ i.val % (4294967296 : Int) = ((1#32 <<< i.val).toNat : Int) := by decide +kernel
  exact this ⟨k, h⟩
theorem Arr.fresh (M : Nat) (W : World) : Arr ((W.alloc (.cells zero32 45)).setRow W.heap.size zero32) W.heap.size (pcols M 0) := setRow_heap _ _ zero32 _ _ _ (heap_alloc_new W _)

theorem Arr.beside {W : World} {g : Nat} {cs : List W32} (h : Arr W g cs) : Arr ((W.alloc (.cells zero32 45)).setRow W.heap.size zero32) g cs := by
  unfold Arr
  rw [setRow_other _ _ _ _ (by have := h.lt; omega), Below.heap_alloc _ _ _ h.lt]
  exact h

theorem colOf_eq (cs : List W32) (k : Nat) (h : k < cs.length) : colOf cs k = cs[k] := by simp [colOf, List.getD, h]

set_option linter.unusedSimpArgs false in
set_option maxHeartbeats 4000000 in
theorem refJoin_any (a b : W32) (n : Int) (w : World) :
    Calls Tryd.prog 16 #[.int .u32 (a.toNat : Int), .int .u32 (b.toNat : Int), .int .i64 n] w fun e w' => e = .returned (.int .u32 ((joinF a b (min (max n 0) 1073741824).toNat).toNat : Int)) ∧ Below w.heap.size w w' := by
  obtain ⟨N, hN⟩ : ∃ N : Nat, min (max n 0) 1073741824 = (N : Int) := ⟨(min (max n 0) 1073741824).toNat, by omega⟩
  obtain ⟨p, hp, hpN⟩ : ∃ p : Nat, (if n < 0 then (0 : Int) else n) = (p : Int) ∧ (if (1073741824 : Int) < (p : Int) then (1073741824 : Int) else (p : Int)) = (N : Int) := by
    refine ⟨n.toNat, ?_, ?_⟩
    · split <;> omega
    · split <;> omega
  rw [hN, Int.toNat_natCast]
  have hNb : N ≤ 1073741824 := by omega
  clear hN
  go_enter Tryd.func16, Tryd.ntmps16
  go_wp2_with (first | with_reducible refine wpList_zero rfl 45 rfl (.agg zero32) zero_build ?_ | with_reducible refine wpList_new rfl 45 rfl zero32 45 zero_alloc ?_ | with_reducible refine wpList_store_row rfl 45 (.tmp 7) (.tmp 14) rfl w.heap.size zero32 rfl rfl 45 zero32 (heap_alloc_new w _) size_zero32 rfl one_zero32 ?_)
  have A0 := Arr.fresh 8 w
  have B0 : Below w.heap.size w ((w.alloc (.cells zero32 45)).setRow w.heap.size zero32) := below_setRow ((Below.refl _ w).alloc (Nat.le_refl _) _) (Nat.le_refl _) _
  generalize (w.alloc (.cells zero32 45)).setRow w.heap.size zero32 = w1 at *
  go_loopg [8] 32 (fun g i wr => ∃ k : Nat, k + g = 32 ∧ i = .int .i64 (k : Int) ∧ Arr wr w.heap.size (pcols 8 k) ∧ Below w.heap.size w wr)
  case atStart => exact ⟨0, by omega, rfl, A0, B0⟩
  case round =>
    clear A0 B0
    obtain ⟨k, hk, rfl, hM, hB⟩ := hrel
    by_cases hlt : (k : Int) < 32
    · obtain ⟨g, rfl⟩ : ∃ g, gk = g + 1 := ⟨gk - 1, by omega⟩
      obtain ⟨z, hsh, hz⟩ : ∃ z : W32, (2 : Int) ^ k % 4294967296 = (z.toNat : Int) ∧ Aside (z = 1#32 <<< k) := ⟨_, shl1_32 k (by omega), rfl⟩
      go_wp2
      simp only [hsh]
      clear hsh
      go_loopg [9, 10] 8 (fun g x i wr' => wr = wr' ∧ ∃ (j : Nat) (y' : W32), x = .int .u32 (y'.toNat : Int) ∧ i = .int .i64 (j : Int) ∧ j + g = 8 ∧ Aside (y' = steps j z))
      case atStart => exact ⟨rfl, 0, z, rfl, rfl, by omega, rfl⟩
      case round =>
        obtain ⟨rfl, j, y', rfl, rfl, hj, hA'⟩ := hrel
        by_cases hlt' : j < 8
        · obtain ⟨g', rfl⟩ : ∃ g, gk = g + 1 := ⟨gk - 1, by omega⟩
          go_wp2_with fail
          refine (refStep_any y' wr).mono ?_
          rintro e w1 ⟨rfl, rfl⟩
          go_wp2
          go_roundg g'
          case measure => omega
          case rel => exact ⟨rfl, j + 1, step1 y', rfl, by go_num, by omega, by rw [hA'.out]; exact (steps_add j 1 z).symm⟩
        · obtain rfl : j = 8 := by omega
          have hc := hM.cell k (by rw [pcols_len 8 k (by omega)]; omega)
          have hf := hM.frozen k
          obtain ⟨u, hu⟩ : ∃ u, u = (pcols 8 k)[k]'(by rw [pcols_len 8 k (by omega)]; omega) := ⟨_, rfl⟩
          rw [← hu] at hc
          go_wp2
          go_roundg g
          case measure => omega
          case rel => exact ⟨k + 1, by omega, by go_num, by rw [← pcols_set 8 k (by omega), ← hz.out, ← hA'.out]; exact hM.set k y', hB.setCell (Nat.le_refl _) _⟩
    · obtain rfl : k = 32 := by omega
      go_wp2
      clear hp hpN
      go_loopg [0, 11] N (fun g x m wr' => Below w.heap.size w wr' ∧ ∃ (y : W32) (M : Nat), x = .int .u32 (y.toNat : Int) ∧ m = .int .i64 (g : Int) ∧ Arr wr' w.heap.size (pcols M 32) ∧ g ≤ 1073741824 ∧ Aside (steps (M * g) y = steps (8 * N) a))
      case atStart => exact ⟨hB, a, 8, rfl, rfl, hM, hNb, rfl⟩
      case round =>
        clear hM hB
        obtain ⟨hB, y, M, rfl, rfl, hM, hgb, hA⟩ := hrel
        have hsz : (Tryd.prog.info? 45).map (·.size) = some ((pcols M 32).map v32).toArray.size := by rw [size45]; simp [pcols_len M 32 (by omega)]
        have hMh : Hid (wr.heap[w.heap.size]? = some (.cells ((pcols M 32).map v32).toArray 45)) := hM
        by_cases hg : (0 : Int) < (gk : Int)
        · obtain ⟨q, hq, hqb, hqg⟩ : ∃ q : Nat, (gk : Int) / 2 = (q : Int) ∧ q ≤ 1073741824 ∧ Aside (q = gk / 2 ∧ q < gk) := ⟨gk / 2, by omega, by omega, rfl, by omega⟩
          obtain ⟨K0, hK0, hpar⟩ : ∃ K0 : Nat, Aside (K0 = gk) ∧ Aside (((gk : Int) % 2 == 1) = (decide (K0 % 2 = 1))) := ⟨gk, rfl, by
            show ((gk : Int) % 2 == 1) = decide (gk % 2 = 1)
            rw [Bool.eq_iff_iff, beq_iff_eq, decide_eq_true_eq]; omega⟩
          cases hodd : ((gk : Int) % 2 == 1)
          · have hparE : Hid (gk % 2 = 0) := by
              have h1 := hpar.out
              rw [hodd, hK0.out] at h1
              have h2 : ¬ gk % 2 = 1 := by simpa using h1.symm
              show gk % 2 = 0
              omega
            clear hpar hK0
            go_wp2_with (first | with_reducible refine wpList_zero rfl 45 rfl (.agg zero32) zero_build ?_ | with_reducible refine wpList_new rfl 45 rfl zero32 45 zero_alloc ?_ | with_reducible refine wpList_store_row rfl 45 (.tmp 12) (.tmp 44) rfl _ zero32 rfl rfl 45 zero32 (heap_alloc_new _ _) size_zero32 rfl one_zero32 ?_)
            have A0 := Arr.fresh (M + M) wr
            have hMn := hM.beside
            have hBn : Below w.heap.size w ((wr.alloc (.cells zero32 45)).setRow wr.heap.size zero32) := below_setRow (hB.alloc hB.size _) hB.size _
            have hne : w.heap.size < wr.heap.size := hM.lt
            generalize (wr.alloc (.cells zero32 45)).setRow wr.heap.size zero32 = wn at *
            generalize wr.heap.size = G at *
            clear hM hB hMh
            go_loopg [13] 32 (fun g i wr' => ∃ k : Nat, k + g = 32 ∧ i = .int .i64 (k : Int) ∧ Arr wr' w.heap.size (pcols M 32) ∧ Arr wr' G (pcols (M + M) k) ∧ Below w.heap.size w wr')
            case atStart => exact ⟨0, by omega, rfl, hMn, A0, hBn⟩
            case round =>
              clear hMn A0 hBn
              obtain ⟨k, hk, rfl, hM, hM2, hB'⟩ := hrel
              by_cases hlt : (k : Int) < 32
              · obtain ⟨x', hx'⟩ : ∃ x' : W32, Aside (x' = (pcols M 32)[k]'(by rw [pcols_len M 32 (by omega)]; omega)) := ⟨(pcols M 32)[k]'(by rw [pcols_len M 32 (by omega)]; omega), rfl⟩
                obtain ⟨g', rfl⟩ : ∃ g, gk = g + 1 := ⟨gk - 1, by omega⟩
                go_wp2_with fail
                refine wp_region_held_drew (S := fun w' => Arr w' w.heap.size (pcols M 32)) (by kernel_rfl) hM (fun hHeld => ?_)
                refine wpAnyH_take (i := 0) (v := ?_) (by simp only [List.getElem?_toArray, List.getElem?_cons_succ, List.getElem?_cons_zero]; rfl) (by kernel_rfl) (by kernel_rfl) (by kernel_rfl) (by intro _ _ _ h; exact h) (Or.inl ⟨by rfl, ?_⟩) hHeld ?_
                rotate_left 1
                · intro wq hSw
                  try dsimp only at hSw
                  go_simp
                  try (with_reducible rfl)
                try simp only [Act.put, List.setIfInBounds_toArray, List.set_cons_zero, List.set_cons_succ]
                refine wpAnyH_take (i := 1) (v := ?_) (by simp only [List.getElem?_toArray, List.getElem?_cons_succ, List.getElem?_cons_zero]; rfl) (by kernel_rfl) (by kernel_rfl) (by kernel_rfl) (by intro _ _ _ h; exact h) (Or.inl ⟨by rfl, ?_⟩) hHeld ?_
                rotate_left 1
                · intro wq hSw
                  try dsimp only at hSw
                  refine exec_load_row ?_ 45 (.tmp 7) ?_ w.heap.size ?_ 45 _ (0, 0) (.array 32 22) hSw Tryd.underlying45 rfl hsz
                  all_goals rfl
                try simp only [Act.put, List.setIfInBounds_toArray, List.set_cons_zero, List.set_cons_succ]
                refine wpAnyH_take (i := 2) (v := ?_) (by simp only [List.getElem?_toArray, List.getElem?_cons_succ, List.getElem?_cons_zero]; rfl) (by kernel_rfl) (by kernel_rfl) (by kernel_rfl) (by intro _ _ _ h; exact h) (Or.inl ⟨by rfl, ?_⟩) hHeld ?_
                rotate_left 1
                · intro wq hSw
                  try dsimp only at hSw
                  go_simp
                  try (with_reducible rfl)
                try simp only [Act.put, List.setIfInBounds_toArray, List.set_cons_zero, List.set_cons_succ]
                refine wpAnyH_take (i := 3) (v := ?_) (by simp only [List.getElem?_toArray, List.getElem?_cons_succ, List.getElem?_cons_zero]; rfl) (by kernel_rfl) (by kernel_rfl) (by kernel_rfl) (by intro _ _ _ h; exact h) (Or.inl ⟨by rfl, ?_⟩) hHeld ?_
                rotate_left 1
                · intro wq hSw
                  try dsimp only at hSw
                  go_simp
                  try (with_reducible rfl)
                try simp only [Act.put, List.setIfInBounds_toArray, List.set_cons_zero, List.set_cons_succ]
                refine wpAnyH_take (i := 4) (v := ?_) (by simp only [List.getElem?_toArray, List.getElem?_cons_succ, List.getElem?_cons_zero]; rfl) (by kernel_rfl) (by kernel_rfl) (by kernel_rfl) (by intro _ _ _ h; exact h) (Or.inl ⟨by rfl, ?_⟩) hHeld ?_
                rotate_left 1
                · intro wq hSw
                  try dsimp only at hSw
                  have hcw := Arr.cell hSw k (by rw [pcols_len M 32 (by omega)]; omega)
                  rw [← hx'.out] at hcw
                  go_simp
                  try (with_reducible rfl)
                try simp only [Act.put, List.setIfInBounds_toArray, List.set_cons_zero, List.set_cons_succ]
                refine wpAnyH_ready (rs := [5]) (by kernel_rfl) (by simp) ?_
                refine AllReadyH.cons (by simp only [List.getElem?_toArray, List.getElem?_cons_succ, List.getElem?_cons_zero]; rfl) (fun K hK => ?_) AllReadyH.nil
                go_simp
                refine (column_any (pcols M 32) (pcols_len M 32 (by omega)) x' _).mono ?_
                rintro e w5 ⟨rfl, b5⟩
                rw [col_steps]
                have hM5 := Arr.below (w := wr.drew) hM b5
                have hM25 := Arr.below (w := wr.drew) hM2 b5
                have hB5 : Below w.heap.size w w5 := hB'.drew.trans (b5.mono hB'.size)
                have hf5 := hM25.frozen k
                have hc5 := hM25.cell k (by rw [pcols_len _ k (by omega)]; omega)
                go_wp2_with fail
                refine hK.out _ _ hM5 (fun hHeld => ?_)
                clear hK K
                try simp only [Act.put, List.setIfInBounds_toArray, List.set_cons_zero, List.set_cons_succ]
                refine wpAnyH_ready (rs := [6]) (by kernel_rfl) (by simp) ?_
                refine AllReadyH.cons (by simp only [List.getElem?_toArray, List.getElem?_cons_succ, List.getElem?_cons_zero]; rfl) (fun K hK => ?_) AllReadyH.nil
                go_simp
                refine hK.out _ _ hM5 (fun hHeld => ?_)
                clear hK K
                try simp only [Act.put, List.setIfInBounds_toArray, List.set_cons_zero, List.set_cons_succ]
                refine wpAnyH_ready (rs := [7]) (by kernel_rfl) (by simp) ?_
                refine AllReadyH.cons (by simp only [List.getElem?_toArray, List.getElem?_cons_succ, List.getElem?_cons_zero]; rfl) (fun K hK => ?_) AllReadyH.nil
                go_simp
                refine hK.out _ _ (hM5.other (by omega)) (fun hHeld => ?_)
                clear hK K
                try simp only [Act.put, List.setIfInBounds_toArray, List.set_cons_zero, List.set_cons_succ]
                refine wpAnyH_done (by kernel_rfl) ?_ _
                go_wp2
                go_roundg g'
                case measure => omega
                case rel =>
                  refine ⟨k + 1, by omega, by go_num, hM5.other (by omega), ?_, hB5.setCell (by show w.heap.size ≤ G; omega) _⟩
                  rw [← pcols_set (M + M) k (by omega), steps_add, ← pcols_at M k (by omega), colOf_eq _ k (by rw [pcols_len M 32 (by omega)]; omega), ← hx'.out]
                  exact hM25.set k _
              · obtain rfl : k = 32 := by omega
                have hM2h : Hid (wr.heap[G]? = some (.cells ((pcols (M + M) 32).map v32).toArray 45)) := hM2
                have hMh : Hid (wr.heap[w.heap.size]? = some (.cells ((pcols M 32).map v32).toArray 45)) := hM
                have hsz2 : (Tryd.prog.info? 45).map (·.size) = some ((pcols (M + M) 32).map v32).toArray.size := by rw [size45]; simp [pcols_len (M + M) 32 (by omega)]
                have hss : ((pcols M 32).map v32).toArray.size = ((pcols (M + M) 32).map v32).toArray.size := by simp [pcols_len (M + M) 32 (by omega), pcols_len M 32 (by omega)]
                go_wp2_with (first | with_reducible refine wpList_load_row rfl 45 (.tmp 12) rfl G rfl 45 _ (0, 0) (.array 32 22) hM2h.out Tryd.underlying45 rfl hsz2 ?_ | with_reducible refine wpList_store_row rfl 45 (.tmp 7) (.tmp 56) rfl w.heap.size _ rfl rfl 45 _ hMh.out hsz2 hss (one32 _) ?_)
                go_roundg q
                case measure => exact hqg.out.2
                case rel => exact ⟨below_setRow hB' (Nat.le_refl _) _, y, M + M, rfl, by go_num, setRow_heap _ _ _ _ _ _ hMh.out, hqb, by rw [hqg.out.1]; exact join_even hA.out hparE.out⟩
          · have hparO : Hid (gk % 2 = 1) := by
              have h1 := hpar.out
              rw [hodd, hK0.out] at h1
              show gk % 2 = 1
              simpa using h1.symm
            clear hpar hK0
            go_wp2_with (first | with_reducible refine wpList_load_row rfl 45 (.tmp 7) rfl w.heap.size rfl 45 _ (0, 0) (.array 32 22) hMh.out Tryd.underlying45 rfl hsz ?_ | fail)
            refine (column_any (pcols M 32) (pcols_len M 32 (by omega)) y wr).mono ?_
            rintro e wv ⟨rfl, bv⟩
            rw [col_steps]
            obtain ⟨y2, hy2⟩ : ∃ y2 : W32, Aside (y2 = steps M y) := ⟨steps M y, rfl⟩
            rw [← hy2.out]
            replace hM := hM.below bv
            replace hB := hB.trans (bv.mono hB.size)
            clear bv hMh
            have hMh : Hid True := trivial
            go_wp2_with (first | with_reducible refine wpList_zero rfl 45 rfl (.agg zero32) zero_build ?_ | with_reducible refine wpList_new rfl 45 rfl zero32 45 zero_alloc ?_ | with_reducible refine wpList_store_row rfl 45 (.tmp 12) (.tmp 44) rfl _ zero32 rfl rfl 45 zero32 (heap_alloc_new _ _) size_zero32 rfl one_zero32 ?_)
            have A0 := Arr.fresh (M + M) wv
            have hMn := hM.beside
            have hBn : Below w.heap.size w ((wv.alloc (.cells zero32 45)).setRow wv.heap.size zero32) := below_setRow (hB.alloc hB.size _) hB.size _
            have hne : w.heap.size < wv.heap.size := hM.lt
            generalize (wv.alloc (.cells zero32 45)).setRow wv.heap.size zero32 = wn at *
            generalize wv.heap.size = G at *
            clear hM hB hMh
            go_loopg [13] 32 (fun g i wr' => ∃ k : Nat, k + g = 32 ∧ i = .int .i64 (k : Int) ∧ Arr wr' w.heap.size (pcols M 32) ∧ Arr wr' G (pcols (M + M) k) ∧ Below w.heap.size w wr')
            case atStart => exact ⟨0, by omega, rfl, hMn, A0, hBn⟩
            case round =>
              clear hMn A0 hBn
              obtain ⟨k, hk, rfl, hM, hM2, hB'⟩ := hrel
              by_cases hlt : (k : Int) < 32
              · obtain ⟨x', hx'⟩ : ∃ x' : W32, Aside (x' = (pcols M 32)[k]'(by rw [pcols_len M 32 (by omega)]; omega)) := ⟨(pcols M 32)[k]'(by rw [pcols_len M 32 (by omega)]; omega), rfl⟩
                obtain ⟨g', rfl⟩ : ∃ g, gk = g + 1 := ⟨gk - 1, by omega⟩
                go_wp2_with fail
                refine wp_region_held_drew (S := fun w' => Arr w' w.heap.size (pcols M 32)) (by kernel_rfl) hM (fun hHeld => ?_)
                refine wpAnyH_take (i := 0) (v := ?_) (by simp only [List.getElem?_toArray, List.getElem?_cons_succ, List.getElem?_cons_zero]; rfl) (by kernel_rfl) (by kernel_rfl) (by kernel_rfl) (by intro _ _ _ h; exact h) (Or.inl ⟨by rfl, ?_⟩) hHeld ?_
                rotate_left 1
                · intro wq hSw
                  try dsimp only at hSw
                  go_simp
                  try (with_reducible rfl)
                try simp only [Act.put, List.setIfInBounds_toArray, List.set_cons_zero, List.set_cons_succ]
                refine wpAnyH_take (i := 1) (v := ?_) (by simp only [List.getElem?_toArray, List.getElem?_cons_succ, List.getElem?_cons_zero]; rfl) (by kernel_rfl) (by kernel_rfl) (by kernel_rfl) (by intro _ _ _ h; exact h) (Or.inl ⟨by rfl, ?_⟩) hHeld ?_
                rotate_left 1
                · intro wq hSw
                  try dsimp only at hSw
                  refine exec_load_row ?_ 45 (.tmp 7) ?_ w.heap.size ?_ 45 _ (0, 0) (.array 32 22) hSw Tryd.underlying45 rfl hsz
                  all_goals rfl
                try simp only [Act.put, List.setIfInBounds_toArray, List.set_cons_zero, List.set_cons_succ]
                refine wpAnyH_take (i := 2) (v := ?_) (by simp only [List.getElem?_toArray, List.getElem?_cons_succ, List.getElem?_cons_zero]; rfl) (by kernel_rfl) (by kernel_rfl) (by kernel_rfl) (by intro _ _ _ h; exact h) (Or.inl ⟨by rfl, ?_⟩) hHeld ?_
                rotate_left 1
                · intro wq hSw
                  try dsimp only at hSw
                  go_simp
                  try (with_reducible rfl)
                try simp only [Act.put, List.setIfInBounds_toArray, List.set_cons_zero, List.set_cons_succ]
                refine wpAnyH_take (i := 3) (v := ?_) (by simp only [List.getElem?_toArray, List.getElem?_cons_succ, List.getElem?_cons_zero]; rfl) (by kernel_rfl) (by kernel_rfl) (by kernel_rfl) (by intro _ _ _ h; exact h) (Or.inl ⟨by rfl, ?_⟩) hHeld ?_
                rotate_left 1
                · intro wq hSw
                  try dsimp only at hSw
                  go_simp
                  try (with_reducible rfl)
                try simp only [Act.put, List.setIfInBounds_toArray, List.set_cons_zero, List.set_cons_succ]
                refine wpAnyH_take (i := 4) (v := ?_) (by simp only [List.getElem?_toArray, List.getElem?_cons_succ, List.getElem?_cons_zero]; rfl) (by kernel_rfl) (by kernel_rfl) (by kernel_rfl) (by intro _ _ _ h; exact h) (Or.inl ⟨by rfl, ?_⟩) hHeld ?_
                rotate_left 1
                · intro wq hSw
                  try dsimp only at hSw
                  have hcw := Arr.cell hSw k (by rw [pcols_len M 32 (by omega)]; omega)
                  rw [← hx'.out] at hcw
                  go_simp
                  try (with_reducible rfl)
                try simp only [Act.put, List.setIfInBounds_toArray, List.set_cons_zero, List.set_cons_succ]
                refine wpAnyH_ready (rs := [5]) (by kernel_rfl) (by simp) ?_
                refine AllReadyH.cons (by simp only [List.getElem?_toArray, List.getElem?_cons_succ, List.getElem?_cons_zero]; rfl) (fun K hK => ?_) AllReadyH.nil
                go_simp
                refine (column_any (pcols M 32) (pcols_len M 32 (by omega)) x' _).mono ?_
                rintro e w5 ⟨rfl, b5⟩
                rw [col_steps]
                have hM5 := Arr.below (w := wr.drew) hM b5
                have hM25 := Arr.below (w := wr.drew) hM2 b5
                have hB5 : Below w.heap.size w w5 := hB'.drew.trans (b5.mono hB'.size)
                have hf5 := hM25.frozen k
                have hc5 := hM25.cell k (by rw [pcols_len _ k (by omega)]; omega)
                go_wp2_with fail
                refine hK.out _ _ hM5 (fun hHeld => ?_)
                clear hK K
                try simp only [Act.put, List.setIfInBounds_toArray, List.set_cons_zero, List.set_cons_succ]
                refine wpAnyH_ready (rs := [6]) (by kernel_rfl) (by simp) ?_
                refine AllReadyH.cons (by simp only [List.getElem?_toArray, List.getElem?_cons_succ, List.getElem?_cons_zero]; rfl) (fun K hK => ?_) AllReadyH.nil
                go_simp
                refine hK.out _ _ hM5 (fun hHeld => ?_)
                clear hK K
                try simp only [Act.put, List.setIfInBounds_toArray, List.set_cons_zero, List.set_cons_succ]
                refine wpAnyH_ready (rs := [7]) (by kernel_rfl) (by simp) ?_
                refine AllReadyH.cons (by simp only [List.getElem?_toArray, List.getElem?_cons_succ, List.getElem?_cons_zero]; rfl) (fun K hK => ?_) AllReadyH.nil
                go_simp
                refine hK.out _ _ (hM5.other (by omega)) (fun hHeld => ?_)
                clear hK K
                try simp only [Act.put, List.setIfInBounds_toArray, List.set_cons_zero, List.set_cons_succ]
                refine wpAnyH_done (by kernel_rfl) ?_ _
                go_wp2
                go_roundg g'
                case measure => omega
                case rel =>
                  refine ⟨k + 1, by omega, by go_num, hM5.other (by omega), ?_, hB5.setCell (by show w.heap.size ≤ G; omega) _⟩
                  rw [← pcols_set (M + M) k (by omega), steps_add, ← pcols_at M k (by omega), colOf_eq _ k (by rw [pcols_len M 32 (by omega)]; omega), ← hx'.out]
                  exact hM25.set k _
              · obtain rfl : k = 32 := by omega
                have hM2h : Hid (wr.heap[G]? = some (.cells ((pcols (M + M) 32).map v32).toArray 45)) := hM2
                have hMh : Hid (wr.heap[w.heap.size]? = some (.cells ((pcols M 32).map v32).toArray 45)) := hM
                have hsz2 : (Tryd.prog.info? 45).map (·.size) = some ((pcols (M + M) 32).map v32).toArray.size := by rw [size45]; simp [pcols_len (M + M) 32 (by omega)]
                have hss : ((pcols M 32).map v32).toArray.size = ((pcols (M + M) 32).map v32).toArray.size := by simp [pcols_len (M + M) 32 (by omega), pcols_len M 32 (by omega)]
                go_wp2_with (first | with_reducible refine wpList_load_row rfl 45 (.tmp 12) rfl G rfl 45 _ (0, 0) (.array 32 22) hM2h.out Tryd.underlying45 rfl hsz2 ?_ | with_reducible refine wpList_store_row rfl 45 (.tmp 7) (.tmp 56) rfl w.heap.size _ rfl rfl 45 _ hMh.out hsz2 hss (one32 _) ?_)
                go_roundg q
                case measure => exact hqg.out.2
                case rel => exact ⟨below_setRow hB' (Nat.le_refl _) _, y2, M + M, rfl, by go_num, setRow_heap _ _ _ _ _ _ hMh.out, hqb, by rw [hqg.out.1]; rw [hy2.out]; exact join_odd hA.out hparO.out⟩
        · obtain rfl : gk = 0 := by omega
          go_wp2
          go_ret
          refine ⟨ret_int ?_, hB⟩
          have hs := hA.out
          rw [Nat.mul_zero] at hs
          rw [xor32, joinF, ← hs]
          rfl
end Go.Proofs.YtdjengpjbgejlaaDoor
