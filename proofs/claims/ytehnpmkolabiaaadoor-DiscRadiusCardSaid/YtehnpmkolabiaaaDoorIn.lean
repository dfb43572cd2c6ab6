/-
  What a function with boxes of its own keeps: blocks that may change, boxes, new blocks. No program is named here.
-/
import Derived.Test.YtehnpmkolabiaaaDoorBase
import Derived.Test.YtehnpmkolabiaaaDoorRf
import Derived.Lib.SliceRun
namespace Go.Proofs.YtehnpmkolabiaaaDoor
open Go.RowKit
set_option maxRecDepth 100000
set_option linter.unusedVariables false
set_option linter.unusedSimpArgs false

/-- Only blocks that T admits have changed. -/
structure Moved (T : Nat → Prop) (w w' : World) : Prop where
  os : w'.os = w.os
  tape : w'.tape = w.tape
  output : w'.output = w.output
  size : w.heap.size ≤ w'.heap.size
  block : ∀ g, g < w.heap.size → ¬ T g → w'.heap[g]? = w.heap[g]?
theorem Moved.below {B : Nat} {T : Nat → Prop} {a w w' : World} (h : Moved T w w') (hb : Below B a w) (hT : ∀ g, T g → B ≤ g) (hB : B ≤ w.heap.size) : Below B a w' :=
  ⟨h.os.trans hb.os, h.tape.trans hb.tape, h.output.trans hb.output, Nat.le_trans hb.size h.size, fun k hk => (h.block k (by omega) (fun e => by have := hT k e; omega)).trans (hb.block k hk)⟩
theorem Moved.refl (T : Nat → Prop) (w : World) : Moved T w w := ⟨rfl, rfl, rfl, Nat.le_refl _, fun _ _ _ => rfl⟩
theorem Moved.trans {T : Nat → Prop} {a b c : World} (h : Moved T a b) (k : Moved T b c) : Moved T a c :=
  ⟨k.os.trans h.os, k.tape.trans h.tape, k.output.trans h.output, Nat.le_trans h.size k.size, fun g hg hT => (k.block g (Nat.lt_of_lt_of_le hg h.size) hT).trans (h.block g hg hT)⟩
theorem Moved.cell {T : Nat → Prop} {w w' : World} (h : Moved T w w') {p : Addr} (hlt : p.block < w.heap.size) (hT : ¬ T p.block) : w'.cell? p = w.cell? p := World.cell?_of_block (h.block p.block hlt hT)
theorem Moved.imp {T U : Nat → Prop} {w w' : World} (h : Moved T w w') (hTU : ∀ g, T g → U g) : Moved U w w' := ⟨h.os, h.tape, h.output, h.size, fun g hg hU => h.block g hg fun hT => hU (hTU g hT)⟩
theorem Moved.of_below {T : Nat → Prop} {w w' : World} (h : Below w.heap.size w w') : Moved T w w' := ⟨h.os, h.tape, h.output, h.size, fun g hg _ => h.block g hg⟩
/-- The blocks that a loop may change: those that T admits and that stood at w, and those from B on. -/
def Star (w : World) (T : Nat → Prop) (B : Nat) : Nat → Prop := fun g => (T g ∧ g < w.heap.size) ∨ B ≤ g
/-- Within a function that began at w and has boxes of its own below B. -/
structure In (w : World) (T : Nat → Prop) (B : Nat) (bx : List (Nat × Value × TypeId)) (W : World) : Prop where
  moved : Moved T w W
  low : w.heap.size ≤ B
  size : B ≤ W.heap.size
  box : ∀ p ∈ bx, w.heap.size ≤ p.1 ∧ p.1 < B ∧ W.heap[p.1]? = some (.cells #[p.2.1] p.2.2 (0, 0))
theorem Star.not {w : World} {T : Nat → Prop} {B g : Nat} (h1 : w.heap.size ≤ g) (h2 : g < B) : ¬ Star w T B g := fun h => by rcases h with ⟨_, h⟩ | h <;> omega
theorem In.step {w : World} {T U : Nat → Prop} {B : Nat} {bx : List (Nat × Value × TypeId)} {W W' : World} (h : In w U B bx W) (hTU : ∀ g, T g → U g) (hm : Moved (Star w T B) W W') : In w U B bx W' := by
  have hlow := h.low
  have hsz := h.size
  refine ⟨⟨hm.os.trans h.moved.os, hm.tape.trans h.moved.tape, hm.output.trans h.moved.output, Nat.le_trans h.moved.size hm.size, fun g hg hT => ?_⟩, h.low, Nat.le_trans h.size hm.size, fun p hp => ?_⟩
  · exact (hm.block g (by omega) (fun e => by rcases e with ⟨e, _⟩ | e; exact hT (hTU _ e); omega)).trans (h.moved.block g hg hT)
  · obtain ⟨h1, h2, h3⟩ := h.box p hp
    exact ⟨h1, h2, (hm.block p.1 (by omega) (Star.not h1 h2)).trans h3⟩
theorem In.below {w : World} {T : Nat → Prop} {B : Nat} {bx : List (Nat × Value × TypeId)} {W W' : World} (h : In w T B bx W) (hb : Below W.heap.size W W') : In w T B bx W' := h.step (T := fun _ => False) (fun _ h => h.elim) (.of_below hb)
theorem In.put {w : World} {T : Nat → Prop} {B : Nat} {bx : List (Nat × Value × TypeId)} {W : World} (h : In w T B bx W) {l : Nat} (hl : w.heap.size ≤ l) (hn : ∀ p ∈ bx, p.1 ≠ l) (o : Obj) : In w T B bx (W.putObj l o) :=
  ⟨⟨h.moved.os, h.moved.tape, h.moved.output, by rw [World.putObj_size]; exact h.moved.size, fun g hg hT => (World.putObj_heap_other (by omega)).trans (h.moved.block g hg hT)⟩, h.low, by rw [World.putObj_size]; exact h.size,
    fun p hp => ⟨(h.box p hp).1, (h.box p hp).2.1, (World.putObj_heap_other (hn p hp)).trans (h.box p hp).2.2⟩⟩
theorem cells_one {w : World} {b : Nat} {u : Value} {t : TypeId} (h : w.heap[b]? = some (.cells #[u] t (0, 0))) : w.cell? ⟨b, 0, none⟩ = some u ∧ w.frozen? ⟨b, 0, none⟩ = false := by
  constructor <;> simp [World.cell?, World.frozen?, h]
theorem heap_set_one {w : World} {b : Nat} {u x : Value} {t : TypeId} (h : w.heap[b]? = some (.cells #[u] t (0, 0))) : (w.setCell ⟨b, 0, none⟩ x).heap[b]? = some (.cells #[x] t (0, 0)) := by
  show (w.heap.modify b _)[b]? = _
  rw [Array.getElem?_modify, if_pos rfl, h]
  rfl
theorem In.set {w : World} {T : Nat → Prop} {B b : Nat} {u : Value} {t : TypeId} {bx : List (Nat × Value × TypeId)} {W : World} (h : In w T B ((b, u, t) :: bx) W) (hn : ∀ p ∈ bx, p.1 ≠ b) (x : Value) : In w T B ((b, x, t) :: bx) (W.setCell ⟨b, 0, none⟩ x) := by
  obtain ⟨h1, h2, h3⟩ := h.box (b, u, t) (by simp)
  have hsz : (W.setCell ⟨b, 0, none⟩ x).heap.size = W.heap.size := by simp
  refine ⟨⟨h.moved.os, h.moved.tape, h.moved.output, by rw [hsz]; exact h.moved.size, fun g hg hT => (Below.heap_setCell _ _ _ _ (by show g ≠ b; simp at h1; omega)).trans (h.moved.block g hg hT)⟩, h.low, by rw [hsz]; exact h.size, fun p hp => ?_⟩
  rcases List.mem_cons.1 hp with rfl | hp
  · exact ⟨h1, h2, heap_set_one h3⟩
  · obtain ⟨k1, k2, k3⟩ := h.box p (by simp [hp])
    exact ⟨k1, k2, (Below.heap_setCell _ _ _ _ (hn p hp)).trans k3⟩
theorem In.at0 {w : World} {T : Nat → Prop} {B b : Nat} {u : Value} {t : TypeId} {bx : List (Nat × Value × TypeId)} {W : World} (h : In w T B bx W) (hm : (b, u, t) ∈ bx) : W.cell? ⟨b, 0, none⟩ = some u ∧ W.frozen? ⟨b, 0, none⟩ = false := cells_one (h.box _ hm).2.2
theorem In.sub {w : World} {T : Nat → Prop} {B : Nat} {bx bx' : List (Nat × Value × TypeId)} {W : World} (h : In w T B bx W) (hs : ∀ p ∈ bx', p ∈ bx) : In w T B bx' W := ⟨h.moved, h.low, h.size, fun p hp => h.box p (hs p hp)⟩
theorem In.b0 {w : World} {T : Nat → Prop} {B : Nat} {p : Nat × Value × TypeId} {bx : List (Nat × Value × TypeId)} {W : World} (h : In w T B (p :: bx) W) : W.cell? ⟨p.1, 0, none⟩ = some p.2.1 ∧ W.frozen? ⟨p.1, 0, none⟩ = false := cells_one (h.box p (.head _)).2.2
theorem In.b1 {w : World} {T : Nat → Prop} {B : Nat} {p q : Nat × Value × TypeId} {bx : List (Nat × Value × TypeId)} {W : World} (h : In w T B (q :: p :: bx) W) : W.cell? ⟨p.1, 0, none⟩ = some p.2.1 ∧ W.frozen? ⟨p.1, 0, none⟩ = false := cells_one (h.box p (.tail _ (.head _))).2.2
theorem In.b2 {w : World} {T : Nat → Prop} {B : Nat} {p q r : Nat × Value × TypeId} {bx : List (Nat × Value × TypeId)} {W : World} (h : In w T B (q :: r :: p :: bx) W) : W.cell? ⟨p.1, 0, none⟩ = some p.2.1 ∧ W.frozen? ⟨p.1, 0, none⟩ = false := cells_one (h.box p (.tail _ (.tail _ (.head _)))).2.2
theorem In.b3 {w : World} {T : Nat → Prop} {B : Nat} {p q r s : Nat × Value × TypeId} {bx : List (Nat × Value × TypeId)} {W : World} (h : In w T B (q :: r :: s :: p :: bx) W) : W.cell? ⟨p.1, 0, none⟩ = some p.2.1 ∧ W.frozen? ⟨p.1, 0, none⟩ = false := cells_one (h.box p (.tail _ (.tail _ (.tail _ (.head _))))).2.2
theorem In.b4 {w : World} {T : Nat → Prop} {B : Nat} {p q r s t : Nat × Value × TypeId} {bx : List (Nat × Value × TypeId)} {W : World} (h : In w T B (q :: r :: s :: t :: p :: bx) W) : W.cell? ⟨p.1, 0, none⟩ = some p.2.1 ∧ W.frozen? ⟨p.1, 0, none⟩ = false := cells_one (h.box p (.tail _ (.tail _ (.tail _ (.tail _ (.head _)))))).2.2
/-- New blocks, one behind the other. -/
def allocs (w : World) : List Obj → World
  | [] => w
  | o :: os => allocs (w.alloc o) os
theorem allocs_below : ∀ (os : List Obj) (w : World), Below w.heap.size w (allocs w os)
  | [], w => Below.refl _ _
  | o :: os, w => ((Below.refl _ _).alloc (Nat.le_refl _) o).trans ((allocs_below os (w.alloc o)).mono (by simp))
theorem allocs_size : ∀ (os : List Obj) (w : World), (allocs w os).heap.size = w.heap.size + os.length
  | [], w => rfl
  | o :: os, w => by show (allocs (w.alloc o) os).heap.size = _; rw [allocs_size os]; simp; omega
theorem allocs_at : ∀ (os : List Obj) (w : World) (j : Nat), j < os.length → (allocs w os).heap[w.heap.size + j]? = os[j]?
  | o :: os, w, 0, _ => by
    show (allocs (w.alloc o) os).heap[w.heap.size]? = some o
    rw [(allocs_below os (w.alloc o)).block w.heap.size (by simp)]
    exact heap_alloc_new w o
  | o :: os, w, j + 1, h => by
    have := allocs_at os (w.alloc o) j (by simpa using h)
    rw [World.size_alloc] at this
    show (allocs (w.alloc o) os).heap[w.heap.size + (j + 1)]? = os[j]?
    rwa [show w.heap.size + (j + 1) = w.heap.size + 1 + j by omega]
theorem In.start {w W : World} {U : Nat → Prop} {bx : List (Nat × Value × TypeId)} (hb : Below w.heap.size w W) (hbx : ∀ p ∈ bx, w.heap.size ≤ p.1 ∧ W.heap[p.1]? = some (.cells #[p.2.1] p.2.2 (0, 0))) {B : Nat} (hB : B = W.heap.size + 2) (d o : Obj) : In w U B bx ((W.alloc d).alloc o) := by
  have h2 : Below W.heap.size W ((W.alloc d).alloc o) := ((Below.refl _ _).alloc (Nat.le_refl _) _).alloc (by simp) _
  have h1 := hb.trans (h2.mono hb.size)
  have hsz := hb.size
  refine ⟨.of_below h1, by omega, by rw [hB]; simp, fun p hp => ?_⟩
  obtain ⟨k1, k2⟩ := hbx p hp
  have hlt : p.1 < W.heap.size := (Array.getElem?_eq_some_iff.1 k2).1
  exact ⟨k1, by omega, (h2.block _ hlt).trans k2⟩
theorem Moved.same2 {w W W' : World} {T : Nat → Prop} {B D : Nat} (h : Moved (Star w T B) W W') (h1 : w.heap.size ≤ D) (h2 : D + 2 ≤ B) (h3 : D + 1 < W.heap.size) : Same2 D W W' :=
  ⟨h.block D (by omega) (Star.not h1 (by omega)), h.block (D + 1) h3 (Star.not (by omega) (by omega))⟩
theorem same2_set {D k : Nat} {W : World} {x : Value} (h1 : k ≠ D) (h2 : k ≠ D + 1) : Same2 D W (W.setCell ⟨k, 0, none⟩ x) := ⟨Below.heap_setCell _ _ _ _ (fun e => h1 e.symm), Below.heap_setCell _ _ _ _ (fun e => h2 e.symm)⟩
theorem Same2.of_below {D : Nat} {W W' : World} (h : Below W.heap.size W W') (hD : D + 1 < W.heap.size) : Same2 D W W' := ⟨h.block D (by omega), h.block (D + 1) hD⟩
theorem Same2.drewN {D : Nat} {W W' : World} (h : Same2 D W W') (n : Nat) : Same2 D W (W'.drewN n) := h
theorem In.drewN {w W : World} {U : Nat → Prop} {B : Nat} {bx : List (Nat × Value × TypeId)} (h : In w U B bx W) (n : Nat) : In w U B bx (W.drewN n) := h.below (below_drewN' (Below.refl _ _) n)
theorem Moved.to_below {w w' : World} (h : Moved (fun _ => False) w w') : Below w.heap.size w w' := ⟨h.os, h.tape, h.output, h.size, fun g hg => h.block g hg fun h => h⟩
end Go.Proofs.YtehnpmkolabiaaaDoor
