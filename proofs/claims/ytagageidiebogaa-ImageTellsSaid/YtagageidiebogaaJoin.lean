/-
  Drawn regions that lay a variable and build rows: the orders are joined at the region's end ('region_join'), and what is kept on the way. No program is named here.
-/
import Derived.Test.YtagageidiebogaaBlk
import Derived.Test.YtagageidiebogaaDrawn
namespace Go.Wag
open Go.RowKit

/-- All orders of a region end in R; from R the walk goes on once. -/
theorem region_join {P : Program} {id : Nat} {ops : Array Oper} {dr : Bool} {α : Type} {K : Act → World → Prop} {Q' : Exit → Act → World → Prop} {a : Act} {w : World} {R : α → Act → World → Prop} (T : α)
    (hbody : (Code.region id ops dr).wp P (fun e a w => e = .normal ∧ R T a w) a w) (hrest : ∀ a w, R T a w → K a w) : (Code.region id ops dr).wp P (Exit.then K Q') a w :=
  Code.wp_mono (fun e a w h => by
    obtain ⟨rfl, h⟩ := h
    exact hrest a w h) hbody

/-- 'append' as one operation of a region. -/
theorem wp_app {P : Program} {o : Oper} {a : Act} {w w' : World} {K : Act → World → Prop} {Q : Exit → Act → World → Prop} {v u : Value} {A : Option Addr} {m c : Nat} (s x : Operand) (t : TypeId)
    (ho : o.op = .call { callee := .builtin .append, args := #[s, x], argTypes := #[t, t] }) (hs : a.eval s = v) (hx : a.eval x = .slice A m c)
    (hr : (Builtin.append_ #[t, t] o.type #[v, .slice A m c]).run P w = .ok u w') (h : K (a.put o.dst u) w') : Oper.wp P o a w K Q := by
  unfold Oper.wp execOp
  simp only [ho, resolve, invoke, builtin, Sem.run_bind, Sem.run_pure, Result.andThen_ok, List.map_toArray, List.map_cons, List.map_nil, hs, hx, hr]
  exact h

theorem own_base {w : World} {base B : Nat} {e : TypeId} {v : Value} {n : Nat} {xs : List Value} (h : w.ownsRow base e 1 v n xs) (hb : B ≤ base) : w.ownsRow B e 1 v n xs := by
  refine ⟨h.1, ?_⟩
  rcases h.2 with hn | ⟨g, cap, cur, hv, hg, rest⟩
  · exact .inl hn
  · exact .inr ⟨g, cap, cur, hv, Nat.le_trans hb hg, rest⟩
theorem made_own {B : Nat} (w : World) (z : Value) (e : TypeId) (n c : Nat) (hnc : n ≤ c) (hc : c ≤ 9223372036854775807) (hb : B ≤ w.heap.size) :
    (w.alloc (.cells (mk0 z c) e)).ownsRow B e 1 (.slice (some ⟨w.heap.size, 0, none⟩) n c) n (List.replicate n z) := own_base (Own.made w z e n c hnc hc).own hb
theorem built_own {B : Nat} (w : World) (cells : Array Value) (e : TypeId) (xs : List Value) (n : Nat) (hx : cells.toList = xs) (hn : xs.length = n) (h1 : n ≤ 1000) (hb : B ≤ w.heap.size) :
    (w.alloc (.cells cells e)).ownsRow B e 1 (.slice (some ⟨w.heap.size, 0, none⟩) n n) n xs := by
  subst hx
  refine ⟨by simpa using hn, .inr ⟨w.heap.size, n, cells, rfl, hb, ?_, Nat.le_refl _, by simp only [maxLen]; omega, by simpa using hn, ?_⟩⟩
  · show (w.heap.push _)[_]? = _
    simp
  · rw [Nat.mul_one, ← hn, List.take_length]
theorem own_ne {w : World} {base kv : Nat} {e : TypeId} {v : Value} {n : Nat} {xs : List Value} (O : w.ownsRow base e 1 v n xs) (h : w.heap.size ≤ kv) : ∀ b, v.ownBlock = some b → b ≠ kv := fun b hb e => by
  have := (World.ownsRow.lt O b hb).2
  omega
theorem ownA_ne {w : World} {base kv : Nat} {e : TypeId} {A : Option Addr} {n c : Nat} {xs : List Value} (N : w.ownsRow base e 1 (.slice A n c) n xs) (h : w.heap.size ≤ kv) : ∀ ad, A = some ad → ad.block ≠ kv := fun ad hA e => by
  subst hA
  have := (World.ownsRow.lt N ad.block rfl).2
  omega
theorem nw_ne {w w' : World} {k : Nat} {e : TypeId} {A : Option Addr} {n c : Nat} {xs : List Value} (N : Nw e w w' A n c xs) (h : k < w.heap.size) : ∀ ad, A = some ad → ad.block ≠ k := fun ad hA e => by
  have := N.fr ad hA
  omega
theorem slice_ne {w : World} {k : Nat} (n : Nat) (h : k < w.heap.size) : ∀ b, (Value.slice (some ⟨w.heap.size, 0, none⟩) n n).ownBlock = some b → b ≠ k := fun b hb e => by
  have hb' : some w.heap.size = some b := hb
  cases hb'
  omega
theorem own_ne_step {w w' : World} {base k : Nat} {e : TypeId} {v v' : Value} {m : Nat} {ys : List Value} (hO : Own base e w w' v v' m ys) (hne : ∀ b, v.ownBlock = some b → b ≠ k) (hk : k < w.heap.size) : ∀ b, v'.ownBlock = some b → b ≠ k := fun b hb => by
  rcases hO.lies with h | h
  · exact hne b (h ▸ hb)
  · intro e
    have := h b hb
    omega
theorem own_below {W w w' : World} {base : Nat} {e : TypeId} {v v' : Value} {n m : Nat} {xs ys : List Value} (O : w.ownsRow W.heap.size e 1 v n xs) (hO : Own base e w w' v v' m ys) (b : Below W.heap.size W w) : Below W.heap.size W w' :=
  hO.below b b.size (fun k hk => (World.ownsRow.lt O k hk).1)
theorem sl_of_eq {w : World} {base : Nat} {e : TypeId} {A : Option Addr} {n c : Nat} {u : Value} {xs : List Value} (h : Value.slice A n c = u) (O : w.ownsRow base e 1 u n xs) : Sl w A n c xs := by
  subst h
  exact Sl.of_own O
theorem Nw.alloc {e : TypeId} {w w' : World} {A : Option Addr} {n c : Nat} {xs : List Value} (h : Nw e w w' A n c xs) (o : Obj) : Nw e w (w'.alloc o) A n c xs := World.ownsRow.alloc h o
end Go.Wag
