/-
  A scope whose run jumps back to one label: what holds at every jump bears a number that each pass lowers; what stands ahead of the label need only come to it. No program is named here.
-/
import Derived.WalkKit
import Derived.WalkMore
import Derived.ScopeJumps
import Derived.Deep.LoopGhost
namespace Go.Wag

theorem jump_mono {P : Program} {l : Nat} {J J' : Act → World → Prop} {Q : Exit → Act → World → Prop} {c : Code} {a : Act} {w : World} (h : c.wp P (Exit.jump l J Q) a w) (hj : ∀ a w, J a w → J' a w) : c.wp P (Exit.jump l J' Q) a w := by
  refine wp_mono h ?_
  intro e a' w' hq
  cases e with
  | goto l' => exact ⟨hq.1, hj _ _ hq.2⟩
  | normal => exact hq
  | exit id => exact hq
  | ret => exact hq
  | panic ch => exact hq
  | outgrown => exact hq

theorem wp_scope_ghost {P : Program} {a : Act} {w : World} {Q : Exit → Act → World → Prop} {c rest : Code} (l : Nat) (J : Nat → Act → World → Prop) (hf : findLabel c l = some (Code.skip.seq rest))
    (pass : ∀ n a w, J n a w → ∀ J' : Nat → Act → World → Prop, (∀ k a w, J k a w → J' k a w) → rest.wp P (Exit.jump l (Handed J' n) Q) a w)
    (first : ∀ L : Act → World → Prop, (∀ n a w, J n a w → rest.wp P (Exit.jump l L Q) a w) → c.wp P (Exit.jump l L Q) a w) : (Code.scope c).wp P Q a w := by
  have key : ∀ n a w, J n a w → rest.wp P (Exit.jump l (fun a' w' => ∃ n, J n a' w') Q) a w := fun n a w h =>
    jump_mono (pass n a w h J fun _ _ _ q => q) fun _ _ ⟨k, _, hk⟩ => ⟨k, hk⟩
  refine wp_scope_jumps l (fun a w => ∃ n, J n a w) (fun a w => leastOf fun n => J n a w) hf (first _ key) ?_
  intro a w hI
  refine wp_seq (wp_skip ?_)
  refine jump_mono (pass _ a w (leastOf_spec hI).1 J fun _ _ _ q => q) ?_
  rintro a' w' ⟨k, hlt, hk⟩
  exact ⟨⟨k, hk⟩, Nat.lt_of_le_of_lt ((leastOf_spec ⟨k, hk⟩).2 k hk) hlt⟩
end Go.Wag
