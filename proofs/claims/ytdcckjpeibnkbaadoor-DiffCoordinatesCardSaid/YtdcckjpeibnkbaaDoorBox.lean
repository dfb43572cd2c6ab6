/-
  Boxes that a region makes and stores into once, beside calls that make memory: what its operations keep. No program is named here.
-/
import Derived.Test.YtdcckjpeibnkbaaDoorOrd
import Derived.Test.YtdcckjpeibnkbaaDoorHeld
namespace Go.Proofs.YtdcckjpeibnkbaaDoor
open Go.RowKit

/-- Which block an operation has made. -/
abbrev Gh := Nat → Option Nat
/-- No box of the region. -/
def Off (g : Gh) (b : Nat) : Prop := ∀ i, g i ≠ some b
/-- Where a region stands: the world at the function's beginning, that at the region's, and the boxes that stood already (1000 and on: the results'; 2000 and on: the callers'). -/
structure Ctx where
  W0 : World
  W : World
  g0 : Gh
/-- The world at hand. -/
structure RInv (c : Ctx) (g : Gh) (w : World) : Prop where
  below : Below c.W0.heap.size c.W0 w
  size : c.W.heap.size ≤ w.heap.size
  old : ∀ b, b < c.W.heap.size → Off g b → w.heap[b]? = c.W.heap[b]?
  keep0 : ∀ i k, c.g0 i = some k → g i = some k
  new : ∀ i k, g i = some k → c.g0 i = some k ∨ c.W.heap.size ≤ k
  lt : ∀ i k, g i = some k → k < w.heap.size
  base : ∀ i k, i < 2000 → g i = some k → c.W0.heap.size ≤ k
  inj : ∀ i j k, g i = some k → g j = some k → i = j
  box0 : ∀ i k n, c.g0 i = some k → HasBox c.W k n → HasBox w k n
/-- What operation j does; st tells which operation stores into a box. -/
structure Step (st : Nat → Option Nat) (j : Nat) (g : Gh) (w : World) (g' : Gh) (w' : World) : Prop where
  size : w.heap.size ≤ w'.heap.size
  frame : ∀ k, k < w.heap.size → (∀ i, st i = some j → g i ≠ some k) → w'.heap[k]? = w.heap[k]?
  keep : ∀ i k, g i = some k → g' i = some k
  new : ∀ i k, g' i = some k → g i = some k ∨ (i = j ∧ w.heap.size ≤ k)
  box : ∀ i k n, g i = some k → HasBox w k n → HasBox w' k n
  inj : ∀ i i' k, g i = some k → g i' = some k → i = i'
/-- What the boxes at a region's beginning must meet. -/
structure Ctx.Ok (c : Ctx) : Prop where
  below : Below c.W0.heap.size c.W0 c.W
  lt : ∀ i k, c.g0 i = some k → k < c.W.heap.size
  base : ∀ i k, i < 2000 → c.g0 i = some k → c.W0.heap.size ≤ k
  inj : ∀ i j k, c.g0 i = some k → c.g0 j = some k → i = j
  free : ∀ i, i < 1000 → c.g0 i = none
theorem Ctx.ok_none {w W : World} (hb : Below w.heap.size w W) : Ctx.Ok ⟨w, W, fun _ => none⟩ := ⟨hb, fun _ _ h => (by cases h), fun _ _ _ h => (by cases h), fun _ _ _ h => (by cases h), fun _ _ => rfl⟩
theorem RInv.start {c : Ctx} (h : c.Ok) : RInv c c.g0 c.W.drew := ⟨below_drewN' h.below 1, Nat.le_refl _, fun _ _ _ => rfl, fun _ _ h => h, fun _ _ h => .inl h, h.lt, h.base, h.inj, fun _ _ _ _ h => h⟩
theorem RInv.start0 {c : Ctx} (h : c.Ok) : RInv c c.g0 c.W := ⟨h.below, Nat.le_refl _, fun _ _ _ => rfl, fun _ _ h => h, fun _ _ h => .inl h, h.lt, h.base, h.inj, fun _ _ _ _ h => h⟩
/-- A cell that stood at the region's beginning, off the boxes. -/
theorem RInv.cell {c : Ctx} {g : Gh} {w : World} (hI : RInv c g w) {p : Addr} {v : Value} (h : c.W.cell? p = some v) (ho : Off c.g0 p.block) : w.cell? p = some v := by
  have hlt := World.block_lt_of_cell? c.W p h
  exact (World.cell?_of_block (hI.old p.block hlt (fun i e => by
    rcases hI.new i _ e with h1 | h1
    · exact ho i h1
    · omega))).trans h
/-- The next region's beginning. -/
theorem RInv.next {w0 W : World} {g0 g : Gh} {w : World} (hI : RInv ⟨w0, W, g0⟩ g w) (h : Ctx.Ok ⟨w0, W, g0⟩) : Ctx.Ok ⟨w0, w, g0⟩ :=
  ⟨hI.below, fun i k e => Nat.lt_of_lt_of_le (h.lt i k e) hI.size, h.base, h.inj, h.free⟩
theorem Step.none_ {st : Nat → Option Nat} {i j : Nat} {g : Gh} {w : World} {g' : Gh} {w' : World} (hij : i ≠ j) (h : g i = none) (hs : Step st j g w g' w') : g' i = none := by
  cases hg : g' i with
  | none => rfl
  | some k =>
    rcases hs.new i k hg with h1 | ⟨h1, _⟩
    · rw [h] at h1; cases h1
    · exact absurd h1 hij
theorem Step.off {st : Nat → Option Nat} {j : Nat} {g : Gh} {w : World} {g' : Gh} {w' : World} (hs : Step st j g w g' w') {b : Nat} (hb : b < w.heap.size) (h : Off g b) : Off g' b := fun i e => by
  rcases hs.new i b e with h1 | ⟨_, h1⟩
  · exact h i h1
  · omega
theorem Step.block {st : Nat → Option Nat} {j : Nat} {g : Gh} {w : World} {g' : Gh} {w' : World} (hs : Step st j g w g' w') {b : Nat} (hb : b < w.heap.size) (h : Off g b) : w'.heap[b]? = w.heap[b]? :=
  hs.frame b hb fun i _ => h i
theorem SlR.step {st : Nat → Option Nat} {j : Nat} {g : Gh} {w : World} {g' : Gh} {w' : World} {k : IntKind} {A : Option Addr} {ds : List Int} (h : SlR w (Off g) k A ds) (hs : Step st j g w g' w') : SlR w' (Off g') k A ds := fun hl => by
  obtain ⟨b, off, e, hS, hc⟩ := h hl
  have hlt := lt_of_cell (hc 0 _ (List.getElem?_eq_getElem hl))
  exact ⟨b, off, e, hs.off hlt hS, fun i d hd => (World.cell?_of_block (hs.block hlt hS)).trans (hc i d hd)⟩
theorem SlR.off {w w' : World} {c : Ctx} {g : Gh} {k : IntKind} {A : Option Addr} {ds : List Int} (h : SlR w' (fun b => w.heap.size ≤ b) k A ds) (hI : RInv c g w) : SlR w' (Off g) k A ds :=
  h.imp fun b hb i e => by have := hI.lt i b e; omega
/-- A box that was made. -/
def PtrR (i n : Nat) (v : Value) (g : Gh) (w : World) : Prop := ∃ k, v = .pointer (some ⟨k, 0, none⟩) ∧ g i = some k ∧ HasBox w k n
theorem PtrR.step {st : Nat → Option Nat} {j i n : Nat} {v : Value} {g : Gh} {w : World} {g' : Gh} {w' : World} (h : PtrR i n v g w) (hs : Step st j g w g' w') : PtrR i n v g' w' := by
  obtain ⟨k, e, hk, hb⟩ := h
  exact ⟨k, e, hs.keep i k hk, hs.box i k n hk hb⟩
/-- The cells of a box that was stored into. -/
def CellsAt (w : World) (k : Nat) (cs : List Value) : Prop := ∀ o v, cs[o]? = some v → w.cell? ⟨k, o, none⟩ = some v
theorem CellsAt.step {st : Nat → Option Nat} {j s i k : Nat} {cs : List Value} {g : Gh} {w : World} {g' : Gh} {w' : World} (h : CellsAt w k cs) (hs : Step st j g w g' w') (hk : g i = some k) (hlt : k < w.heap.size) (hst : st i = some s) (hj : s ≠ j) : CellsAt w' k cs := fun o v hv =>
  (World.cell?_of_block (hs.frame k hlt (fun i' h' e => by
    have := hs.inj i i' k hk e
    subst this
    rw [hst] at h'
    injection h' with h'
    exact hj h'))).trans (h o v hv)
theorem Step.refl {st : Nat → Option Nat} {j : Nat} {c : Ctx} {g : Gh} {w : World} (hI : RInv c g w) : Step st j g w g w := ⟨Nat.le_refl _, fun _ _ _ => rfl, fun _ _ h => h, fun _ _ h => .inl h, fun _ _ _ _ h => h, hI.inj⟩
theorem Step.call {st : Nat → Option Nat} {j : Nat} {c : Ctx} {g : Gh} {w w' : World} (hI : RInv c g w) (hb : Below w.heap.size w w') : Step st j g w g w' :=
  ⟨hb.size, fun k hk _ => hb.block k hk, fun _ _ h => h, fun _ _ h => .inl h, fun _ _ _ _ h => h.next hb, hI.inj⟩
theorem RInv.call {c : Ctx} {g : Gh} {w w' : World} (hI : RInv c g w) (hb : Below w.heap.size w w') : RInv c g w' :=
  ⟨hI.below.trans (hb.mono hI.below.size), Nat.le_trans hI.size hb.size, fun b h ho => (hb.block b (Nat.lt_of_lt_of_le h hI.size)).trans (hI.old b h ho), hI.keep0, hI.new, fun i k h => Nat.lt_of_lt_of_le (hI.lt i k h) hb.size, hI.base, hI.inj, fun i k n h hx => (hI.box0 i k n h hx).next hb⟩
/-- The boxes with one more. -/
def more (g : Gh) (j k : Nat) : Gh := fun i => if i = j then some k else g i
theorem more_at (g : Gh) (j k : Nat) : more g j k j = some k := if_pos rfl
theorem more_off {g : Gh} {j k b : Nat} (h : Off g b) (hne : b ≠ k) : Off (more g j k) b := fun i e => by
  unfold more at e
  split at e
  · injection e with e; exact hne e.symm
  · exact h i e
theorem Step.alloc {st : Nat → Option Nat} {j : Nat} {c : Ctx} {g : Gh} {w : World} (hI : RInv c g w) (hF : g j = none) (o : Obj) : Step st j g w (more g j w.heap.size) (w.alloc o) :=
  ⟨by simp, fun k hk _ => heap_alloc_old w o hk, fun i k h => by
    unfold more
    rw [if_neg (fun e => by subst e; rw [hF] at h; cases h)]; exact h, fun i k h => by
    unfold more at h
    split at h
    · rename_i e; injection h with h; exact .inr ⟨e, by omega⟩
    · exact .inl h, fun _ _ _ _ h => h.next ((Below.refl _ _).alloc (Nat.le_refl _) o), hI.inj⟩
theorem RInv.alloc {c : Ctx} {g : Gh} {w : World} (hI : RInv c g w) (j : Nat) (hF : g j = none) (o : Obj) : RInv c (more g j w.heap.size) (w.alloc o) :=
  ⟨hI.below.alloc hI.below.size o, by have := hI.size; simp; omega, fun b hb ho => (heap_alloc_old w o (Nat.lt_of_lt_of_le hb hI.size)).trans (hI.old b hb (fun i e => ho i (by
      unfold more
      rw [if_neg (fun e' => by subst e'; rw [hF] at e; cases e)]; exact e))), fun i k h => by
    unfold more
    have := hI.keep0 i k h
    rw [if_neg (fun e' => by subst e'; rw [hF] at this; cases this)]; exact this, fun i k h => by
    unfold more at h
    split at h
    · injection h with h; subst h; exact .inr hI.size
    · exact hI.new i k h, fun i k h => by
    unfold more at h
    split at h
    · injection h with h; subst h; simp
    · have := hI.lt i k h; simp; omega, fun i k hi h => by
    unfold more at h
    split at h
    · injection h with h; subst h; exact hI.below.size
    · exact hI.base i k hi h, fun i i' k h h' => by
    unfold more at h h'
    split at h <;> split at h'
    · rename_i e e'; rw [e, e']
    · injection h with h; have := hI.lt i' k h'; omega
    · injection h' with h'; have := hI.lt i k h; omega
    · exact hI.inj i i' k h h', fun i k n h hx => (hI.box0 i k n h hx).next ((Below.refl _ _).alloc (Nat.le_refl _) o)⟩
/-- Only block k has changed, and what was a box is one. -/
structure Touch (w : World) (k : Nat) (w' : World) : Prop where
  os : w'.os = w.os
  tape : w'.tape = w.tape
  output : w'.output = w.output
  size : w'.heap.size = w.heap.size
  block : ∀ b, b ≠ k → w'.heap[b]? = w.heap[b]?
  box : ∀ b n, HasBox w b n → HasBox w' b n
theorem Touch.refl (w : World) (k : Nat) : Touch w k w := ⟨rfl, rfl, rfl, rfl, fun _ _ => rfl, fun _ _ h => h⟩
theorem Touch.set {w w' : World} {k : Nat} (h : Touch w k w') (o : Nat) (v : Value) : Touch w k (w'.setCell ⟨k, o, none⟩ v) := by
  have hb := (Below.refl 0 w').setCell (p := ⟨k, o, none⟩) (Nat.zero_le _) v
  exact ⟨hb.os.trans h.os, hb.tape.trans h.tape, hb.output.trans h.output, by
    have := World.size_setCell w' ⟨k, o, none⟩ v
    rw [this]; exact h.size, fun b hne => (Below.heap_setCell w' ⟨k, o, none⟩ v b hne).trans (h.block b hne), fun b n hx => (h.box b n hx).set_ _ _⟩
theorem Step.store {st : Nat → Option Nat} {s i k : Nat} {c : Ctx} {g : Gh} {w w' : World} (hI : RInv c g w) (hst : st i = some s) (hk : g i = some k) (ht : Touch w k w') : Step st s g w g w' :=
  ⟨by rw [ht.size]; exact Nat.le_refl _, fun b hb h => ht.block b (fun e => h i hst (by rw [e]; exact hk)), fun _ _ h => h, fun _ _ h => .inl h, fun _ b n _ h => ht.box b n h, hI.inj⟩
theorem RInv.store {i k : Nat} {c : Ctx} {g : Gh} {w w' : World} (hI : RInv c g w) (hi : i < 2000) (hk : g i = some k) (ht : Touch w k w') : RInv c g w' :=
  ⟨⟨ht.os.trans hI.below.os, ht.tape.trans hI.below.tape, ht.output.trans hI.below.output, by rw [ht.size]; exact hI.below.size, fun b hb => (ht.block b (fun e => by have := hI.base i k hi hk; omega)).trans (hI.below.block b hb)⟩,
    by rw [ht.size]; exact hI.size, fun b hb ho => (ht.block b (fun e => ho i (by rw [e]; exact hk))).trans (hI.old b hb ho), hI.keep0, hI.new, fun i k h => by (rw [ht.size]; exact hI.lt i k h), hI.base, hI.inj, fun i b n h hx => ht.box b n (hI.box0 i b n h hx)⟩
/-- Memory off the boxes is untouched by a store into one. -/
theorem SlR.touch {w w' : World} {g : Gh} {i k : Nat} {kd : IntKind} {A : Option Addr} {ds : List Int} (h : SlR w (Off g) kd A ds) (hk : g i = some k) (ht : Touch w k w') : SlR w' (Off g) kd A ds := fun hl => by
  obtain ⟨b, off, e, hS, hc⟩ := h hl
  exact ⟨b, off, e, hS, fun j d hd => (World.cell?_of_block (ht.block b (fun e => hS i (by rw [e]; exact hk)))).trans (hc j d hd)⟩
/-- Memory off the boxes is as it was. -/
def Keeps (g : Gh) (w : World) (g' : Gh) (w' : World) : Prop := ∀ b, b < w.heap.size → Off g b → Off g' b ∧ w'.heap[b]? = w.heap[b]?
theorem Step.keeps {st : Nat → Option Nat} {j : Nat} {g : Gh} {w : World} {g' : Gh} {w' : World} (hs : Step st j g w g' w') : Keeps g w g' w' := fun _ hb h => ⟨hs.off hb h, hs.block hb h⟩
/-- From the region's beginning to here. -/
theorem RInv.keeps {c : Ctx} {g : Gh} {w : World} (hI : RInv c g w) : Keeps c.g0 c.W g w := fun b hb h => by
  have ho : Off g b := fun i e => by
    rcases hI.new i b e with h1 | h1
    · exact h i h1
    · omega
  exact ⟨ho, hI.old b hb ho⟩
/-- To the next region's beginning. -/
theorem RInv.back {c : Ctx} {g : Gh} {w : World} (hI : RInv c g w) : Keeps g w c.g0 w := fun _ _ h => ⟨fun i e => h i (hI.keep0 i _ e), rfl⟩
theorem Keeps.trans {g g' g'' : Gh} {w w' w'' : World} (h : Keeps g w g' w') (hs : w.heap.size ≤ w'.heap.size) (k : Keeps g' w' g'' w'') : Keeps g w g'' w'' := fun b hb ho => by
  obtain ⟨h1, h2⟩ := h b hb ho
  obtain ⟨k1, k2⟩ := k b (by omega) h1
  exact ⟨k1, k2.trans h2⟩
theorem RInv.carry {c : Ctx} {g : Gh} {w : World} (hI : RInv c g w) : Keeps c.g0 c.W c.g0 w := hI.keeps.trans hI.size hI.back
/-- A function's own boxes and its caller's. -/
def lift (g : Gh) (k : Nat) : Gh := fun i => if i = 1000 then some k else if i < 2000 then none else g (i - 2000)
theorem lift_at (g : Gh) (k : Nat) : lift g k 1000 = some k := if_pos rfl
theorem lift_off {g : Gh} {k b : Nat} (h : Off g b) (hne : b ≠ k) : Off (lift g k) b := fun i e => by
  unfold lift at e
  split at e
  · injection e with e; exact hne e.symm
  · split at e
    · cases e
    · exact h _ e
theorem off_lift {g : Gh} {k b : Nat} (h : Off (lift g k) b) : Off g b := fun i e => h (i + 2000) (by
  unfold lift
  rw [if_neg (by omega), if_neg (by omega), Nat.add_sub_cancel]; exact e)
theorem Touch.keeps {w w' : World} {k i : Nat} {g : Gh} (ht : Touch w k w') (hk : g i = some k) : Keeps g w g w' := fun b _ h => ⟨h, ht.block b (fun e => h i (by rw [e]; exact hk))⟩
theorem SlR.keeps {g : Gh} {w : World} {g' : Gh} {w' : World} {k : IntKind} {A : Option Addr} {ds : List Int} (h : SlR w (Off g) k A ds) (hs : Keeps g w g' w') : SlR w' (Off g') k A ds := fun hl => by
  obtain ⟨b, off, e, hS, hc⟩ := h hl
  have hlt := lt_of_cell (hc 0 _ (List.getElem?_eq_getElem hl))
  exact ⟨b, off, e, (hs b hlt hS).1, fun i d hd => (World.cell?_of_block (hs b hlt hS).2).trans (hc i d hd)⟩
/-- What a call gives: a value with a fact. -/
def Gives (R : Value → Gh → World → Prop) (g : Gh) (w : World) (e : Ending) (w' : World) : Prop := ∃ v, e = .returned v ∧ R v g w' ∧ Below w.heap.size w w'
/-- A fact that only leans on memory off the boxes. -/
def Firm (R : Value → Gh → World → Prop) : Prop := ∀ v g w g' w', R v g w → Keeps g w g' w' → R v g' w'
/-- The cells of a value. -/
def cellsOf : Value → List Value
  | .agg xs => xs.toList
  | v => [v]
/-- A box that holds a value with a fact. -/
def BoxR (i : Nat) (R : Value → Gh → World → Prop) (g : Gh) (w : World) : Prop := ∃ k u, g i = some k ∧ k < w.heap.size ∧ CellsAt w k (cellsOf u) ∧ R u g w
theorem BoxR.step {st : Nat → Option Nat} {j s i : Nat} {R : Value → Gh → World → Prop} {g : Gh} {w : World} {g' : Gh} {w' : World} (hR : Firm R) (h : BoxR i R g w) (hs : Step st j g w g' w') (hst : st i = some s) (hj : s ≠ j) : BoxR i R g' w' := by
  obtain ⟨k, u, hk, hlt, h1, h2⟩ := h
  exact ⟨k, u, hs.keep i k hk, Nat.lt_of_lt_of_le hlt hs.size, h1.step hs hk hlt hst hj, hR _ _ _ _ _ h2 hs.keeps⟩
theorem firm_eq (x : Value) : Firm (fun v _ _ => v = x) := fun _ _ _ _ _ h _ => h
/-- A value that meets a condition. -/
theorem cells1 {w : World} {q : Nat} {u0 : Value} (h0 : w.cell? ⟨q, 0, none⟩ = some u0) (v0 : Value) : CellsAt (w.setCell ⟨q, 0, none⟩ v0) q [v0] := by
  intro o v h
  match o, h with
  | 0, h => simp at h; subst h; exact World.cell?_setCell_same _ _ _ h0
theorem cells2 {w : World} {q : Nat} {u0 u1 : Value} (h0 : w.cell? ⟨q, 0, none⟩ = some u0) (h1 : w.cell? ⟨q, 1, none⟩ = some u1) (v0 v1 : Value) : CellsAt ((w.setCell ⟨q, 0, none⟩ v0).setCell ⟨q, 1, none⟩ v1) q [v0, v1] := by
  have o : ∀ (w : World) (i j : Nat) (v : Value), i ≠ j → (w.setCell ⟨q, i, none⟩ v).cell? ⟨q, j, none⟩ = w.cell? ⟨q, j, none⟩ := fun w i j v hne => World.cell?_setCell_other _ _ _ _ (fun e => hne (by injection e))
  intro i v h
  match i, h with
  | 0, h => simp at h; subst h; exact (o _ 1 0 _ (by decide)).trans (World.cell?_setCell_same _ _ _ h0)
  | 1, h => simp at h; subst h; exact World.cell?_setCell_same _ _ _ ((o _ 0 1 _ (by decide)).trans h1)
theorem cells4 {w : World} {q : Nat} {u0 u1 u2 u3 : Value} (h0 : w.cell? ⟨q, 0, none⟩ = some u0) (h1 : w.cell? ⟨q, 1, none⟩ = some u1) (h2 : w.cell? ⟨q, 2, none⟩ = some u2) (h3 : w.cell? ⟨q, 3, none⟩ = some u3) (v0 v1 v2 v3 : Value) :
    CellsAt ((((w.setCell ⟨q, 0, none⟩ v0).setCell ⟨q, 1, none⟩ v1).setCell ⟨q, 2, none⟩ v2).setCell ⟨q, 3, none⟩ v3) q [v0, v1, v2, v3] := by
  have o : ∀ (w : World) (i j : Nat) (v : Value), i ≠ j → (w.setCell ⟨q, i, none⟩ v).cell? ⟨q, j, none⟩ = w.cell? ⟨q, j, none⟩ := fun w i j v hne => World.cell?_setCell_other _ _ _ _ (fun e => hne (by injection e))
  intro i v h
  match i, h with
  | 0, h => simp at h; subst h; rw [o _ 3 0 _ (by decide), o _ 2 0 _ (by decide), o _ 1 0 _ (by decide)]; exact World.cell?_setCell_same _ _ _ h0
  | 1, h => simp at h; subst h; rw [o _ 3 1 _ (by decide), o _ 2 1 _ (by decide)]; exact World.cell?_setCell_same _ _ _ ((o _ 0 1 _ (by decide)).trans h1)
  | 2, h => simp at h; subst h; rw [o _ 3 2 _ (by decide)]; exact World.cell?_setCell_same _ _ _ ((o _ 1 2 _ (by decide)).trans ((o _ 0 2 _ (by decide)).trans h2))
  | 3, h => simp at h; subst h; exact World.cell?_setCell_same _ _ _ ((o _ 2 3 _ (by decide)).trans ((o _ 1 3 _ (by decide)).trans ((o _ 0 3 _ (by decide)).trans h3)))
theorem box1 (w : World) (a : Value) (t : TypeId) : HasBox (w.alloc (.cells #[a] t)) w.heap.size 1 := by
  intro i hi
  match i, hi with
  | 0, _ => exact ⟨⟨a, by simp [go_sem]⟩, by simp [go_sem]⟩
theorem box2' (w : World) (a b : Value) (t : TypeId) : HasBox (w.alloc (.cells #[a, b] t)) w.heap.size 2 := by
  intro i hi
  match i, hi with
  | 0, _ => exact ⟨⟨a, by simp [go_sem]⟩, by simp [go_sem]⟩
  | 1, _ => exact ⟨⟨b, by simp [go_sem]⟩, by simp [go_sem]⟩
theorem box4' (w : World) (a b c d : Value) (t : TypeId) : HasBox (w.alloc (.cells #[a, b, c, d] t)) w.heap.size 4 := by
  intro i hi
  match i, hi with
  | 0, _ => exact ⟨⟨a, by simp [go_sem]⟩, by simp [go_sem]⟩
  | 1, _ => exact ⟨⟨b, by simp [go_sem]⟩, by simp [go_sem]⟩
  | 2, _ => exact ⟨⟨c, by simp [go_sem]⟩, by simp [go_sem]⟩
  | 3, _ => exact ⟨⟨d, by simp [go_sem]⟩, by simp [go_sem]⟩
/-- A fact that every other operation keeps. -/
def Stab (st : Nat → Option Nat) (R : Value → Gh → World → Prop) (i : Nat) : Prop := ∀ j v g w g' w', i ≠ j → R v g w → Step st j g w g' w' → R v g' w'
def StabL (st : Nat → Option Nat) : List (Value → Gh → World → Prop) → Nat → Prop
  | [], _ => True
  | R :: r, i => Stab st R i ∧ StabL st r (i + 1)
theorem stab_firm {st : Nat → Option Nat} {R : Value → Gh → World → Prop} {i : Nat} (hR : Firm R) : Stab st R i := fun _ _ _ _ _ _ _ h hs => hR _ _ _ _ _ h hs.keeps
theorem stab_eq {st : Nat → Option Nat} {x : Value} {i : Nat} : Stab st (fun v _ _ => v = x) i := fun _ _ _ _ _ _ _ h _ => h
theorem stab_ptr {st : Nat → Option Nat} {i n k : Nat} : Stab st (PtrR i n) k := fun _ _ _ _ _ _ _ h hs => h.step hs
theorem stab_box {st : Nat → Option Nat} {R : Value → Gh → World → Prop} {i s : Nat} (hR : Firm R) (hst : st i = some s) : Stab st (fun _ g w => BoxR i R g w) s := fun _ _ _ _ _ _ hj h hs => BoxR.step hR h hs hst hj
theorem stabL_at {st : Nat → Option Nat} : ∀ {l : List (Value → Gh → World → Prop)} {k : Nat}, StabL st l k → ∀ i, Stab st (l.getD i (fun _ _ _ => True)) (k + i)
  | [], _, _, _ => fun _ _ _ _ _ _ _ _ _ => trivial
  | _ :: _, _, h, 0 => h.1
  | _ :: _, k, h, i + 1 => by
    have := stabL_at h.2 i
    rw [show k + 1 + i = k + (i + 1) by omega] at this
    exact this
theorem Ctx.ok_lift {c : Ctx} {g : Gh} {w W : World} {k : Nat} (hI : RInv c g w) (hb : Below w.heap.size w W) (hk : w.heap.size ≤ k) (hW : k < W.heap.size) : Ctx.Ok ⟨w, W, lift g k⟩ := by
  refine ⟨hb, fun i b h => ?_, fun i b hi h => ?_, fun i j b h h' => ?_, fun i hi => ?_⟩
  all_goals simp only [lift] at *
  · split at h
    · injection h with h; omega
    · split at h
      · cases h
      · have := hI.lt _ _ h; have := hb.size; omega
  · split at h
    · injection h with h; omega
    · first | (cases h; done) | (rw [if_pos hi] at h; cases h)
  · split at h
    · injection h with h
      split at h'
      · omega
      · split at h'
        · cases h'
        · have := hI.lt _ _ h'; omega
    · split at h
      · cases h
      · split at h'
        · injection h' with h'; have := hI.lt _ _ h; omega
        · split at h'
          · cases h'
          · have := hI.inj _ _ _ h h'; omega
  · rw [if_neg (by omega), if_pos (by omega)]
/-- A function that has no box of its own for its results. -/
def lift0 (g : Gh) : Gh := fun i => if i < 2000 then none else g (i - 2000)
theorem lift0_off {g : Gh} {b : Nat} (h : Off g b) : Off (lift0 g) b := fun i e => by
  unfold lift0 at e
  split at e
  · cases e
  · exact h _ e
theorem off_lift0 {g : Gh} {b : Nat} (h : Off (lift0 g) b) : Off g b := fun i e => h (i + 2000) (by
  unfold lift0
  rw [if_neg (by omega), Nat.add_sub_cancel]; exact e)
theorem Ctx.ok_lift0 {c : Ctx} {g : Gh} {w W : World} (hI : RInv c g w) (hb : Below w.heap.size w W) : Ctx.Ok ⟨w, W, lift0 g⟩ := by
  refine ⟨hb, fun i b h => ?_, fun i b hi h => ?_, fun i j b h h' => ?_, fun i hi => ?_⟩
  all_goals simp only [lift0] at *
  · split at h
    · cases h
    · have := hI.lt _ _ h; have := hb.size; omega
  · rw [if_pos hi] at h; cases h
  · split at h
    · cases h
    · split at h'
      · cases h'
      · have := hI.inj _ _ _ h h'; omega
  · rw [if_pos (by omega)]
theorem keeps_lift0 {g : Gh} {w W : World} (hb : Below w.heap.size w W) : Keeps g w (lift0 g) W := fun b h ho => ⟨lift0_off ho, hb.block b h⟩
theorem keeps_out0 {g : Gh} {w : World} : Keeps (lift0 g) w g w := fun _ _ ho => ⟨off_lift0 ho, rfl⟩
/-- Into the function: its caller's facts. -/
theorem keeps_lift {g : Gh} {w W : World} {k : Nat} (hb : Below w.heap.size w W) (hk : w.heap.size ≤ k) : Keeps g w (lift g k) W := fun b h ho => ⟨lift_off ho (by omega), hb.block b h⟩
/-- Out of the function. -/
theorem keeps_out {g : Gh} {w : World} {k : Nat} : Keeps (lift g k) w g w := fun _ _ ho => ⟨off_lift ho, rfl⟩
theorem keeps_none {g : Gh} {w : World} : Keeps g w (fun _ => none) w := fun _ _ _ => ⟨fun _ h => (by cases h), rfl⟩
section
variable {P : Program} {ops : Array Oper} {Q : Exit → Act → World → Prop}
/-- A region in whatever order, by the list of its facts. -/
theorem box_plan {id : Nat} {a0 : Act} {c : Ctx} (hc : c.Ok) (hm : P.follows .mixedOrders = true) (pre : List (List (Nat × Nat))) (all : List (Nat × Nat)) (Rs : List (Value → Gh → World → Prop)) (st : Nat → Option Nat) (chk : rgChk ops pre = true) (chk2 : allChk ops all = true)
    (hst : StabL st Rs 0) (steps : StepsL P ops Q a0 pre (RInv c) (fun i => Rs.getD i (fun _ _ _ => True)) (Step st) (fun i g => i < 1000 → g i = none) ops.toList 0)
    (fin : ∀ vs g w, RInv c g w → (∀ i, i < ops.size → Rs.getD i (fun _ _ _ => True) (vs i) g w) → Q .normal (fill a0 vs all) w) : (Code.region id ops true).wp P Q a0 c.W :=
  region_plan (Γ := Gh) (g0 := c.g0) hm ⟨pre, all, RInv c, _, Step st, fun i g => i < 1000 → g i = none, chk, chk2, fun i j v g w g' w' hij _ h hs => by
    have := stabL_at hst i
    rw [Nat.zero_add] at this
    exact this j v g w g' w' hij h hs, fun _ _ _ _ _ _ hij h hs hi => Step.none_ hij (h hi) hs, RInv.start hc, hc.free, steps, fin⟩
/-- A region in the text's order, by the list of its facts. -/
theorem box_plan0 {id : Nat} {a0 : Act} {c : Ctx} (hc : c.Ok) (pre : List (List (Nat × Nat))) (all : List (Nat × Nat)) (Rs : List (Value → Gh → World → Prop)) (st : Nat → Option Nat) (chk : rgChk ops pre = true) (chk2 : allChk ops all = true)
    (hst : StabL st Rs 0) (steps : StepsL P ops Q a0 pre (RInv c) (fun i => Rs.getD i (fun _ _ _ => True)) (Step st) (fun i g => i < 1000 → g i = none) ops.toList 0)
    (fin : ∀ vs g w, RInv c g w → (∀ i, i < ops.size → Rs.getD i (fun _ _ _ => True) (vs i) g w) → Q .normal (fill a0 vs all) w) : (Code.region id ops false).wp P Q a0 c.W :=
  region_plan0 (Γ := Gh) (g0 := c.g0) ⟨pre, all, RInv c, _, Step st, fun i g => i < 1000 → g i = none, chk, chk2, fun i j v g w g' w' hij _ h hs => by
    have := stabL_at hst i
    rw [Nat.zero_add] at this
    exact this j v g w g' w' hij h hs, fun _ _ _ _ _ _ hij h hs hi => Step.none_ hij (h hi) hs, RInv.start0 hc, hc.free, steps, fin⟩
end
end Go.Proofs.YtdcckjpeibnkbaaDoor
