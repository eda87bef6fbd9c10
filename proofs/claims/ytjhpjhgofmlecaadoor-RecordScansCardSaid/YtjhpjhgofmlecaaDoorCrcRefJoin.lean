/-
  Contract of the document's Join.
-/
import Derived.Test.YtjhpjhgofmlecaaDoorCrcRef
import Derived.Test.YtjhpjhgofmlecaaDoorArr
import Derived.Lib.SmallJoins
namespace Go.Proofs.YtjhpjhgofmlecaaDoor
open Go.RowKit Go.Wag
set_option linter.unusedVariables false

def pcols (M k : Nat) : List W32 := (List.range k).map (fun j => steps M (1#32 <<< j)) ++ List.replicate (32 - k) 0#32
theorem pcols_len (M k : Nat) (hk : k ≤ 32) : (pcols M k).length = 32 := by simp [pcols]; omega
theorem pcols_set (M k : Nat) (hk : k < 32) : (pcols M k).set k (steps M (1#32 <<< k)) = pcols M (k + 1) := by
  unfold pcols
  rw [List.set_append_right _ _ (by simp), show 32 - k = (32 - (k + 1)) + 1 by omega, List.replicate_succ]
  simp [List.range_succ]
theorem pcols_at (M i : Nat) (hi : i < 32) : colOf (pcols M 32) i = steps M (1#32 <<< i) := by
  simp [colOf, pcols, hi]
theorem colF_congr {m m' : Nat → W32} : ∀ (n : Nat) (v : W32), (∀ i, i < n → m i = m' i) → colF m n v = colF m' n v
  | 0, _, _ => rfl
  | n + 1, v, h => by rw [colF, colF, colF_congr n v (fun i hi => h i (by omega)), h n (by omega)]
theorem col_steps (M : Nat) (v : W32) : colF (colOf (pcols M 32)) 32 v = steps M v := by
  rw [colF_congr 32 v (fun i hi => pcols_at M i hi), colF_all]
theorem exec_load_row {P : Program} {ρ : Operand → Value} {o : Oper} {w : World} (hgd : o.guard = none) (ty : TypeId) (x : Operand) (ho : o.op = .load ty x)
    (g : Nat) (hx : ρ x = .pointer (some ⟨g, 0, none⟩)) (t : TypeId) (cs : Array Value) (fr : Nat × Nat) (d : TypeDesc) (hg : w.heap[g]? = some (.cells cs t fr))
    (hu : P.underlying ty = some d) (hd : (match d with | .struct _ | .array _ _ => true | _ => false) = true) (hi : (P.info? ty).map (·.size) = some cs.size) : (execOp ρ o).run P w = .ok (.value (.agg cs)) w := by
  unfold execOp
  simp only [ho, hx, Instr.loadAt, Instr.sureAddr, Sem.run_bind, Sem.run_pure, Result.andThen_ok, run_loadVar_row w g t ty cs fr d hg hu hd hi]

/-- Thirty-two noughts. -/
def zero32 : Array Value := ((List.replicate 32 0#32).map v32).toArray
theorem one32 (cs : List W32) : (cs.map v32).toArray.all (·.oneCell') = true := by
  rw [Array.all_eq_true_iff_forall_mem]
  intro v hv
  obtain ⟨x, _, rfl⟩ := List.mem_map.1 (by simpa using hv)
  rfl
theorem one_zero32 : zero32.all (·.oneCell') = true := one32 _
theorem shl1_32 (k : Nat) (h : k < 32) : (2 : Int) ^ k % 4294967296 = ((1#32 <<< k).toNat : Int) := by
  have : ∀ i : Fin 32, (2 : Int) ^ i.val % (4294967296 : Int) = ((1#32 <<< i.val).toNat : Int) := by decide +kernel
  exact this ⟨k, h⟩
theorem colOf_eq (cs : List W32) (k : Nat) (h : k < cs.length) : colOf cs k = cs[k] := by simp [colOf, List.getD, h]

end Go.Proofs.YtjhpjhgofmlecaaDoor
