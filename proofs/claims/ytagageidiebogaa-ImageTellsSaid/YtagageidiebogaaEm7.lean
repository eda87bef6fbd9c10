/-
  Contract of package extmap's Put (written by gen_em7.py).
-/
import Derived.Test.YtagageidiebogaaEm6
import Derived.Test.YtagageidiebogaaEm4
namespace Go.Wag
open Go.RowKit
set_option linter.unusedVariables false
theorem retM {n : Nat} {P : Program} {fn : Func} {R : Ending → World → Prop} {tmps : Array Value} {t u : Tmp} {w : World} (h : fn.results = #[.tmp t, .tmp u]) (hR : R (.returned (.tuple #[tmps.getD t undef, tmps.getD u undef])) w) : bodyPostM Fence.wide n P fn R .ret ⟨tmps, []⟩ w := ⟨_, results_tmp2 h _ _ _, hR⟩
theorem retM1 {n D : Nat} {P : Program} {fn : Func} {R : Ending → World → Prop} {tmps : Array Value} {t u : Tmp} {w : World} (h : fn.results = #[.tmp t, .tmp u]) (hK : w.heap[D]? = some (.deferred (some []))) (hR : R (.returned (.tuple #[tmps.getD t undef, tmps.getD u undef])) (w.putObj D (.deferred none))) : bodyPostM Fence.wide n P fn R .ret ⟨tmps, [{ target := .collected D, args := #[] }]⟩ w :=
  ⟨by simp, .inl ⟨_, _, rfl, run_takeDeferred hK, _, results_tmp2 h _ _ _, hR⟩⟩
theorem mrun_len : ∀ {l : List Xp} {e f : Int}, mrun e l f → e + l.length ≤ f
  | [], e, f, h => by
    cases h
    simp
  | x :: l, e, f, h => by
    have := mrun_len h.2.2
    have := Xp.all h.1
    rw [List.length_cons]
    omega
theorem wpListIn_run {F : Fence} {n : Nat} {P : Program} {ops : Array Oper} {rest : List Oper} {o : Oper} {a : Act} {w w' : World} {Q : Exit → Act → World → Prop} {v u : Value} {A : Option Addr} {m c : Nat} (hgd : o.guard = none) (s x : Operand) (t : TypeId)
    (ho : o.op = .call { callee := .builtin .append, args := #[s, x], argTypes := #[t, t] }) (hs : a.eval s = v) (hx : a.eval x = .slice A m c)
    (hr : (Builtin.append_ #[t, t] o.type #[v, .slice A m c]).run P w = .ok u w') (hgo : True → wpListIn F n P ops Q rest (a.put o.dst u) w') : wpListIn F n P ops Q (o :: rest) a w := by
  refine wpListIn_plain hgd fun K hK => ?_
  unfold Oper.wpIn
  refine ⟨by simp [Oper.about, ho, resolve, Target.leads, Sem.run_pure], ?_⟩
  rw [Oper.semAt_plain F _ _ (by rw [ho]; intro c hc; cases hc)]
  simp only [execOp, ho, resolve, invoke, builtin, Sem.run_bind, Sem.run_pure, Result.andThen_ok, List.map_toArray, List.map_cons, List.map_nil, hs, hx, hr]
  exact hK _ _ (hgo trivial)
theorem rq_cells {E : Elt Xp} {F : Nat → Prop} {B : Nat} {t : TypeId} {w : World} {A : Option Addr} {n c : Nat} {xs : List Xp} (h : Rq E F B t w A n c xs) : ∀ (j : Nat) (o : Obj), (Value.slice A n c).ownBlock = some j → w.heap[j]? = some o → o.isCells = true := fun j o hj ho => by
  obtain ⟨cs, hx, _⟩ := h.row
  rcases hx.2 with ⟨hv, _⟩ | ⟨g, cap, cur, hv, _, hg, _⟩
  · rw [hv] at hj
    cases hj
  · rw [hv] at hj
    obtain rfl : g = j := Option.some.inj hj
    rw [hg] at ho
    cases ho
    rfl
def sel3 {α : Type} (a b c : α) : Nat → α
  | 0 => a
  | 1 => b
  | _ => c
theorem cat3 (l1 l2 l3 : List Xp) : catN (sel3 l1 l2 l3) 3 = l1 ++ (l2 ++ l3) := by
  show ((([] ++ l1) ++ l2) ++ l3) = _
  simp
end Go.Wag
namespace Go.Proofs.Ytagageidiebogaa
open Go.RowKit Go.Wag
set_option linter.unusedVariables false
set_option linter.unusedSimpArgs false
set_option maxRecDepth 20000
attribute [local go_sem] Oper.semAt_some
/-- What holds between two rounds of Put's loop. -/
def PutI (w3 : World) (nm : Nat) (L : List Xp) (A9 : Option Addr) (n9 c9 : Nat) (pre : List Xp) (W : World) : Prop :=
  ∃ Ar nr cr, Hid (pre.length = nr) ∧ Blk W nm #[.slice Ar nr cr] 23 ∧ Blk W (nm + 1) #[.slice A9 n9 c9] 23 ∧ Rs extE (fun y => w3.heap.size ≤ y ∧ y < nm) W A9 n9 c9 L ∧ Rq extE (fun y => w3.heap.size ≤ y ∧ y ≠ nm) (nm + 2) 41 W Ar nr cr pre ∧ Below w3.heap.size w3 W
end Go.Proofs.Ytagageidiebogaa
