/-
  A scope out of which the run jumps forward to one label, never back: each jump is walked on from where it stands. No program is named here.
-/
import Derived.ScopeJumps
namespace Go.Proofs.YtokabljeekokmaaDoor
open Go

theorem wp_scope_fwd {P : Program} {a : Act} {w : World} {Q : Exit → Act → World → Prop} {c rest : Code} (l : Nat) (hf : findLabel c l = some rest)
    (first : ∀ J : Act → World → Prop, (∀ a w, rest.wp P (Exit.noGoto Q) a w → J a w) → c.wp P (Exit.jump l J Q) a w) : (Code.scope c).wp P Q a w :=
  wp_scope_jumps l (fun a w => rest.wp P (Exit.noGoto Q) a w) (fun _ _ => 0) hf (first _ fun _ _ h => h) fun _ _ h =>
    wp_mono h fun e _ _ q => by cases e <;> first | exact q | exact q.elim
end Go.Proofs.YtokabljeekokmaaDoor
