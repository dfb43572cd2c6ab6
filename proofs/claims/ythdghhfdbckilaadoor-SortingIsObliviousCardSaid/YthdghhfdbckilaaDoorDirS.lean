/-
  A region in the direct style, one of whose operations writes one cell of old memory, in whatever order it comes.
-/
import Derived.Test.YthdghhfdbckilaaDoorTail
namespace Go.Proofs.YthdghhfdbckilaaDoor
open Go.RowKit
set_option maxRecDepth 100000
set_option linter.unusedVariables false
set_option linter.unusedSimpArgs false

section
variable {P : Program} {ops : Array Oper} {Q : Exit → Act → World → Prop}
/-- The world at the region's beginning, ahead of the store and behind it. -/
def putIf (W : World) (p : Addr) (x : Value) (g : Bool) : World := if g = true then W.setCell p x else W
theorem putIf_size (W : World) (p : Addr) (x : Value) (g : Bool) : (putIf W p x g).heap.size = W.heap.size := by
  cases g <;> simp [putIf]
theorem putIf_cell {W w : World} {p q : Addr} {x v : Value} {g : Bool} (hI : Below W.heap.size (putIf W p x g) w) (hne : q.block ≠ p.block) (h : W.cell? q = some v) : w.cell? q = some v := by
  have hlt : q.block < W.heap.size := World.block_lt_of_cell? W q h
  refine (World.cell?_of_block (hI.block q.block hlt)).trans ?_
  cases g with
  | false => exact h
  | true => exact (World.cell?_of_block (Below.heap_setCell _ _ _ _ hne)).trans h
/-- The store itself. -/
theorem below_put {W w : World} {n : Nat} {p : Addr} {x : Value} (h : Below n W w) (hp : p.block < n) (hn : n ≤ W.heap.size) : Below n (W.setCell p x) (w.setCell p x) := by
  have h1 := h.block p.block hp
  refine ⟨h.os, h.tape, h.output, by simpa using h.size, fun k hk => ?_⟩
  by_cases e : k = p.block
  · subst e
    show (w.heap.modify p.block _)[p.block]? = (W.heap.modify p.block _)[p.block]?
    rw [Array.getElem?_modify, Array.getElem?_modify, if_pos rfl, if_pos rfl, h1]
  · exact (Below.heap_setCell _ _ _ _ e).trans ((h.block k hk).trans (Below.heap_setCell _ _ _ _ e).symm)
theorem below_putIf {w W w6 : World} {n : Nat} {p : Addr} {x : Value} {g : Bool} (hb : Below n w W) (hp : n ≤ p.block) (hI : Below W.heap.size (putIf W p x g) w6) (hn : n ≤ W.heap.size := by omega) : Below n w w6 := by
  cases g with
  | false => exact hb.trans (hI.mono hn)
  | true => exact (hb.setCell hp x).trans (hI.mono hn)
def GdirS (s : Nat) : Nat → Bool → World → Bool → World → Prop := fun j g _ g' _ => if j = s then g = false ∧ g' = true else g' = g
theorem dirS_any {a0 : Act} {W : World} (s : Nat) (p : Addr) (x : Value) (m : Nat) (pre : List (List (Nat × Nat))) (all : List (Nat × Nat)) (Rs : List (Value → Prop)) (chk : rgChk ops pre = true) (chk2 : allChkM ops m all = true) (chk3 : tailChk ops m = true) (hmn : m ≤ ops.size)
    (steps : StepsL P ops Q a0 pre (fun (g : Bool) w => Below W.heap.size (putIf W p x g) w) (fun i v g _ => Rs.getD i (fun _ => True) v ∧ (i = s → g = true)) (GdirS s) (fun i g => i = s → g = false) (ops.toList.take m) 0) (hs : s < m)
    (fin : ∀ vs w, Below W.heap.size (W.setCell p x) w → (∀ i, i < m → Rs.getD i (fun _ => True) (vs i)) → wpOps P ops (NoPanic Q) (List.range' m (ops.size - m)) (fill a0 vs all) w) :
    wpAny P .any ops (NoPanic Q) ops.size (Array.replicate ops.size false) a0 W.drew :=
  tail_plan (Γ := Bool) (g0 := false) m pre all chk chk2 chk3 hmn (fun g w => Below W.heap.size (putIf W p x g) w) (fun i v g _ => Rs.getD i (fun _ => True) v ∧ (i = s → g = true)) (GdirS s) (fun i g => i = s → g = false)
    (fun i j v g w g' w' hij _ h hG => ⟨h.1, fun e => by
      unfold GdirS at hG
      rw [if_neg (fun e2 => hij (e.trans e2.symm))] at hG
      rw [hG]; exact h.2 e⟩)
    (fun i j g w g' w' hij h hG e => by
      unfold GdirS at hG
      rw [if_neg (fun e2 => hij (e.trans e2.symm))] at hG
      rw [hG]; exact h e)
    (below_drewN' (Below.refl _ _) 1) (fun _ _ => rfl) steps (fun vs g w h hr => fin vs w (by
      have hg := (hr s hs).2 rfl
      subst hg
      exact h) fun i hi => (hr i hi).1)
theorem dirS_round {id l n : Nat} {a0 : Act} {W : World} (hm : P.follows .mixedOrders = true) (hd : noDefer ops = true) (hQ : ∀ a w, ¬ Q .outgrown a w) (s : Nat) (p : Addr) (x : Value) (m : Nat) (pre : List (List (Nat × Nat))) (all : List (Nat × Nat)) (Rs : List (Value → Prop)) (chk : rgChk ops pre = true) (chk2 : allChkM ops m all = true) (chk3 : tailChk ops m = true) (hmn : m ≤ ops.size)
    (steps : StepsL P ops Q a0 pre (fun (g : Bool) w => Below W.heap.size (putIf W p x g) w) (fun i v g _ => Rs.getD i (fun _ => True) v ∧ (i = s → g = true)) (GdirS s) (fun i g => i = s → g = false) (ops.toList.take m) 0) (hs : s < m)
    (fin : ∀ vs w, Below W.heap.size (W.setCell p x) w → (∀ i, i < m → Rs.getD i (fun _ => True) (vs i)) → wpOps P ops (NoPanic Q) (List.range' m (ops.size - m)) (fill a0 vs all) w) :
    (Code.region id ops true).wpIn (Fence.wide.inRound l) n P Q a0 W := region_round hm hd hQ (dirS_any s p x m pre all Rs chk chk2 chk3 hmn steps hs fin)
end
end Go.Proofs.YthdghhfdbckilaaDoor
