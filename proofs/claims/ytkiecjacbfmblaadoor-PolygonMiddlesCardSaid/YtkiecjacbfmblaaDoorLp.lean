/-
  What a function with boxes of its own and a tape keeps. No program is named here.
-/
import Derived.Test.YtkiecjacbfmblaaDoorTapeL
import Derived.Test.YtkiecjacbfmblaaDoorIn
namespace Go.Proofs.YtkiecjacbfmblaaDoor
open Go.RowKit Go.Maps
set_option maxRecDepth 100000
set_option linter.unusedVariables false
set_option linter.unusedSimpArgs false

/-- Within a function that began at w, has blocks of its own below D (those of bs hold what bs says), and notes events on a tape. -/
structure Lp (w : World) (T : Nat → Prop) (tv : Value) (es : List Ev) (D : Nat) (bs : List (Nat × Obj)) (W : World) : Prop where
  moved : Moved T w W
  low : w.heap.size ≤ D
  size : D ≤ W.heap.size
  its : ∀ p ∈ bs, w.heap.size ≤ p.1 ∧ p.1 < D ∧ W.heap[p.1]? = some p.2
  tape : TapeO W (Star w T D) tv es
section
variable {w : World} {T : Nat → Prop} {tv : Value} {es es' : List Ev} {D : Nat} {bs bs' : List (Nat × Obj)} {W W' : World}
theorem Lp.step (h : Lp w T tv es D bs W) (hm : Moved (Star w T D) W W') (ht : TapeO W' (Star w T D) tv es') : Lp w T tv es' D bs W' := by
  have hlow := h.low
  have hsz := h.size
  refine ⟨⟨hm.os.trans h.moved.os, hm.tape.trans h.moved.tape, hm.output.trans h.moved.output, Nat.le_trans h.moved.size hm.size, fun g hg hT => ?_⟩, h.low, Nat.le_trans h.size hm.size, fun p hp => ?_, ht⟩
  · exact (hm.block g (by omega) (fun e => by rcases e with ⟨e, _⟩ | e; exact hT e; omega)).trans (h.moved.block g hg hT)
  · obtain ⟨h1, h2, h3⟩ := h.its p hp
    exact ⟨h1, h2, (hm.block p.1 (by omega) (Star.not h1 h2)).trans h3⟩
theorem Lp.next (h : Lp w T tv es D bs W) (hb : Below W.heap.size W W') : Lp w T tv es D bs W' := h.step (.of_below hb) (h.tape.next hb)
theorem Lp.put (h : Lp w T tv es D bs W) {l : Nat} (hl : w.heap.size ≤ l) (hl2 : l < D) (hn : ∀ p ∈ bs, p.1 ≠ l) (o : Obj) : Lp w T tv es D bs (W.putObj l o) :=
  ⟨⟨h.moved.os, h.moved.tape, h.moved.output, by rw [World.putObj_size]; exact h.moved.size, fun g hg hT => (World.putObj_heap_other (by omega)).trans (h.moved.block g hg hT)⟩, h.low, by rw [World.putObj_size]; exact h.size,
    fun p hp => ⟨(h.its p hp).1, (h.its p hp).2.1, (World.putObj_heap_other (hn p hp)).trans (h.its p hp).2.2⟩, tape_put h.tape hl hl2 o⟩
theorem Lp.sub (h : Lp w T tv es D bs W) (hs : ∀ p ∈ bs', p ∈ bs) : Lp w T tv es D bs' W := ⟨h.moved, h.low, h.size, fun p hp => h.its p (hs p hp), h.tape⟩
theorem Lp.set {b : Nat} {u : Value} {t : TypeId} (h : Lp w T tv es D ((b, .cells #[u] t (0, 0)) :: bs) W) (hn : ∀ p ∈ bs, p.1 ≠ b) (x : Value) : Lp w T tv es D ((b, .cells #[x] t (0, 0)) :: bs) (W.setCell ⟨b, 0, none⟩ x) := by
  obtain ⟨h1, h2, h3⟩ := h.its (b, .cells #[u] t (0, 0)) (by simp)
  have hsz : (W.setCell ⟨b, 0, none⟩ x).heap.size = W.heap.size := by simp
  refine ⟨⟨h.moved.os, h.moved.tape, h.moved.output, by rw [hsz]; exact h.moved.size, fun g hg hT => (Below.heap_setCell _ _ _ _ (by show g ≠ b; simp at h1; omega)).trans (h.moved.block g hg hT)⟩, h.low, by rw [hsz]; exact h.size, fun p hp => ?_, tape_set h.tape h1 h2 x⟩
  rcases List.mem_cons.1 hp with rfl | hp
  · exact ⟨h1, h2, heap_set_one h3⟩
  · obtain ⟨k1, k2, k3⟩ := h.its p (by simp [hp])
    exact ⟨k1, k2, (Below.heap_setCell _ _ _ _ (hn p hp)).trans k3⟩
theorem Lp.at_ {b : Nat} {o : Obj} (h : Lp w T tv es D bs W) (hm : (b, o) ∈ bs) : W.heap[b]? = some o := (h.its _ hm).2.2
theorem Lp.one {b : Nat} {u : Value} {t : TypeId} (h : Lp w T tv es D bs W) (hm : (b, .cells #[u] t (0, 0)) ∈ bs) : W.cell? ⟨b, 0, none⟩ = some u ∧ W.frozen? ⟨b, 0, none⟩ = false := cells_one (h.at_ hm)
theorem Lp.out (h : Lp w T tv es D bs W) : TapeO W (fun g => T g ∨ w.heap.size ≤ g) tv es := h.tape.out h.low
theorem Lp.noted (h : Lp w T tv es D bs W) (g : Nat) (hg : W.heap.size ≤ g) : Star w T D g := .inr (Nat.le_trans h.size hg)
theorem Lp.start (ht : TapeO w T tv es) (hb : Below w.heap.size w W) (hbs : ∀ p ∈ bs, w.heap.size ≤ p.1 ∧ W.heap[p.1]? = some p.2) (hD : D = W.heap.size + 2) (d o : Obj) : Lp w T tv es D bs ((W.alloc d).alloc o) := by
  have h2 : Below W.heap.size W ((W.alloc d).alloc o) := ((Below.refl _ _).alloc (Nat.le_refl _) _).alloc (by simp) _
  have h1 := hb.trans (h2.mono hb.size)
  have hsz := hb.size
  refine ⟨.of_below h1, by omega, by rw [hD]; simp, fun p hp => ?_, tape_start ht hb D d o⟩
  obtain ⟨k1, k2⟩ := hbs p hp
  have hlt : p.1 < W.heap.size := (Array.getElem?_eq_some_iff.1 k2).1
  exact ⟨k1, by omega, (h2.block _ hlt).trans k2⟩
/-- A row that the caller handed over. -/
theorem Lp.row {α : Type} {C : α → List Value} {k : Nat} {Q : Nat → Prop} {A : Option Addr} {l : List α} (h : Lp w T tv es D bs W) (ha : RowR w Q k C A l) (hk : ∀ x, 0 < (C x).length) (hQT : ∀ b, Q b → ¬ T b) : RowR W (fun b => Q b ∧ b < w.heap.size) k C A l :=
  (ha.now hk).keep fun b hb hlt => h.moved.block b hb.2 (hQT b hb.1)
theorem Lp.rowOff {Q : Nat → Prop} (hlow : w.heap.size ≤ D) (hQT : ∀ b, Q b → ¬ T b) : ∀ b, Q b ∧ b < w.heap.size → ¬ Star w T D b := fun b hb e => by
  rcases e with e | e
  · exact hQT b hb.1 e.1
  · have := hb.2; omega
end
end Go.Proofs.YtkiecjacbfmblaaDoor
