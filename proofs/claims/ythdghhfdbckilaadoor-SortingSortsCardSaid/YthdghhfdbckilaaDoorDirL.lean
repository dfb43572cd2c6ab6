/-
  A region in the direct style that reads two cells of old memory and behind them writes one cell of it, in whatever order the operations come; what stands behind it is the tail's.
-/
import Derived.Test.YthdghhfdbckilaaDoorDirS
namespace Go.Proofs.YthdghhfdbckilaaDoor
open Go.RowKit
set_option maxRecDepth 100000
set_option linter.unusedVariables false
set_option linter.unusedSimpArgs false

section
variable {P : Program} {ops : Array Oper} {Q : Exit → Act → World → Prop}
/-- Which of the two loads and the store have come up. -/
structure G3 where
  a : Bool
  b : Bool
  s : Bool
def GdirL (la lb s : Nat) : Nat → G3 → World → G3 → World → Prop := fun j g _ g' _ =>
  g'.a = (if j = la then true else g.a) ∧ g'.b = (if j = lb then true else g.b) ∧ g'.s = (if j = s then true else g.s)
theorem dirL_any {a0 : Act} {W : World} (la lb s : Nat) (p : Addr) (x : Value) (m : Nat) (pre : List (List (Nat × Nat))) (all : List (Nat × Nat)) (Rs : List (Value → Prop)) (chk : rgChk ops pre = true) (chk2 : allChkM ops m all = true) (chk3 : tailChk ops m = true) (hmn : m ≤ ops.size)
    (steps : StepsL P ops Q a0 pre (fun (g : G3) w => (g.s = true → g.a = true ∧ g.b = true) ∧ Below W.heap.size (putIf W p x g.s) w) (fun i v g _ => Rs.getD i (fun _ => True) v ∧ (i = la → g.a = true) ∧ (i = lb → g.b = true) ∧ (i = s → g.s = true)) (GdirL la lb s) (fun i g => (i = la → g.a = false) ∧ (i = lb → g.b = false) ∧ (i = s → g.s = false)) (ops.toList.take m) 0) (hs : s < m)
    (fin : ∀ vs w, Below W.heap.size (W.setCell p x) w → (∀ i, i < m → Rs.getD i (fun _ => True) (vs i)) → wpOps P ops (NoPanic Q) (List.range' m (ops.size - m)) (fill a0 vs all) w) :
    wpAny P .any ops (NoPanic Q) ops.size (Array.replicate ops.size false) a0 W.drew :=
  tail_plan (Γ := G3) (g0 := ⟨false, false, false⟩) m pre all chk chk2 chk3 hmn (fun g w => (g.s = true → g.a = true ∧ g.b = true) ∧ Below W.heap.size (putIf W p x g.s) w) (fun i v g _ => Rs.getD i (fun _ => True) v ∧ (i = la → g.a = true) ∧ (i = lb → g.b = true) ∧ (i = s → g.s = true)) (GdirL la lb s) (fun i g => (i = la → g.a = false) ∧ (i = lb → g.b = false) ∧ (i = s → g.s = false))
    (fun i j v g w g' w' hij _ h hG => by
      obtain ⟨e1, e2, e3⟩ := hG
      refine ⟨h.1, fun e => ?_, fun e => ?_, fun e => ?_⟩
      · rw [e1, h.2.1 e]; simp
      · rw [e2, h.2.2.1 e]; simp
      · rw [e3, h.2.2.2 e]; simp)
    (fun i j g w g' w' hij h hG => by
      obtain ⟨e1, e2, e3⟩ := hG
      refine ⟨fun e => ?_, fun e => ?_, fun e => ?_⟩
      · rw [e1, if_neg (fun e4 => hij (e.trans e4.symm))]; exact h.1 e
      · rw [e2, if_neg (fun e4 => hij (e.trans e4.symm))]; exact h.2.1 e
      · rw [e3, if_neg (fun e4 => hij (e.trans e4.symm))]; exact h.2.2 e)
    ⟨fun h => (by cases h), below_drewN' (Below.refl _ _) 1⟩ (fun _ => ⟨fun _ => rfl, fun _ => rfl, fun _ => rfl⟩) steps (fun vs g w h hr => fin vs w (by
      have hg := (hr s hs).2.2.2 rfl
      have h2 := h.2
      rw [hg] at h2
      exact h2) fun i hi => (hr i hi).1)
theorem dirL_plain {id : Nat} {a0 : Act} {W : World} (hm : P.follows .mixedOrders = true) (la lb s : Nat) (p : Addr) (x : Value) (m : Nat) (pre : List (List (Nat × Nat))) (all : List (Nat × Nat)) (Rs : List (Value → Prop)) (chk : rgChk ops pre = true) (chk2 : allChkM ops m all = true) (chk3 : tailChk ops m = true) (hmn : m ≤ ops.size)
    (steps : StepsL P ops Q a0 pre (fun (g : G3) w => (g.s = true → g.a = true ∧ g.b = true) ∧ Below W.heap.size (putIf W p x g.s) w) (fun i v g _ => Rs.getD i (fun _ => True) v ∧ (i = la → g.a = true) ∧ (i = lb → g.b = true) ∧ (i = s → g.s = true)) (GdirL la lb s) (fun i g => (i = la → g.a = false) ∧ (i = lb → g.b = false) ∧ (i = s → g.s = false)) (ops.toList.take m) 0) (hs : s < m)
    (fin : ∀ vs w, Below W.heap.size (W.setCell p x) w → (∀ i, i < m → Rs.getD i (fun _ => True) (vs i)) → wpOps P ops (NoPanic Q) (List.range' m (ops.size - m)) (fill a0 vs all) w) :
    (Code.region id ops true).wp P Q a0 W := wp_region_noPanic (wp_region_any hm (dirL_any la lb s p x m pre all Rs chk chk2 chk3 hmn steps hs fin))
end
end Go.Proofs.YthdghhfdbckilaaDoor
