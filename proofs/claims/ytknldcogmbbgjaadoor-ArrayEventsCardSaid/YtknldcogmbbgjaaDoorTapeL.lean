/-
  A tape, or none, in loops: what a function with boxes of its own keeps while events are noted.
-/
import Derived.Test.YtknldcogmbbgjaaDoorTapeC
import Derived.Test.YtknldcogmbbgjaaDoorRf
namespace Go.Proofs.YtknldcogmbbgjaaDoor
open Go.RowKit Go.Maps
set_option maxRecDepth 100000
set_option linter.unusedVariables false
set_option linter.unusedSimpArgs false

/-- The events behind more events: none for no tape. -/
def addT (v : Value) (l m : List Ev) : List Ev := match v with
  | .pointer none => []
  | _ => l ++ m
theorem addT_some (tb : Nat) (l m : List Ev) : addT (.pointer (some ⟨tb, 0, none⟩)) l m = l ++ m := rfl
theorem addT_none (l m : List Ev) : addT (.pointer none) l m = [] := rfl
/-- One event for each of the first k indices. -/
def evR (kind : Int) (k : Nat) : List Ev := (List.range k).map fun i : Nat => ⟨kind, i, 0⟩
theorem evR_succ (kind : Int) (k : Nat) : evR kind (k + 1) = evR kind k ++ [⟨kind, k, 0⟩] := by unfold evR; rw [List.range_succ]; simp
theorem TapeO.now {w : World} {T : Nat → Prop} {v : Value} {l : List Ev} (h : TapeO w T v l) : TapeO w (fun g => T g ∧ g < w.heap.size) v l := by
  rcases h with h | ⟨tb, e, h⟩
  · exact .inl h
  · exact .inr ⟨tb, e, h.now⟩
theorem TapeO.imp {w : World} {T U : Nat → Prop} {v : Value} {l : List Ev} (h : TapeO w T v l) (hTU : ∀ b, T b → U b) : TapeO w U v l := by
  rcases h with h | ⟨tb, e, h⟩
  · exact .inl h
  · exact .inr ⟨tb, e, h.imp hTU⟩
theorem TapeO.keep {w w' : World} {T : Nat → Prop} {v : Value} {l : List Ev} (h : TapeO w T v l) (hk : ∀ b, T b → b < w.heap.size → w'.heap[b]? = w.heap[b]?) : TapeO w' T v l := by
  rcases h with h | ⟨tb, e, h⟩
  · exact .inl h
  · exact .inr ⟨tb, e, h.keep hk⟩
theorem TapeO.next {w w' : World} {T : Nat → Prop} {v : Value} {l : List Ev} (h : TapeO w T v l) (hb : Below w.heap.size w w') : TapeO w' T v l := h.keep fun b _ hlt => hb.block b hlt
/-- Note, for a tape or none. -/
theorem noteO_any (v : Value) (l : List Ev) (T : Nat → Prop) (k a b : Int) (w : World) (h : TapeO w T v l) (hl : l.length ≤ 1000000) (hk : (Lit.int .i64 k).wf = true) (hT : ∀ g, w.heap.size ≤ g → T g) :
    Calls Tryd.prog 39 #[v, .int .i64 k, .int .i64 a, .int .i64 b] w fun e w' => e = .returned (.tuple #[]) ∧ TapeO w' T v (addT v l [⟨k, a, b⟩]) ∧ Moved T w w' := by
  rcases h with ⟨rfl, rfl⟩ | ⟨tb, rfl, h⟩
  · refine (tapeNoteNil_any k a b w).mono ?_
    rintro e w' ⟨rfl, rfl⟩
    exact ⟨rfl, .inl ⟨rfl, rfl⟩, Moved.refl _ _⟩
  · refine (tapeNote_any tb l T k a b w h hl hk).mono ?_
    rintro e w' ⟨rfl, ht, hm⟩
    exact ⟨rfl, .inr ⟨tb, rfl, ht.imp fun g hg => hg.elim id (hT g)⟩, hm⟩
theorem tape_start {w W : World} {T : Nat → Prop} {v : Value} {l : List Ev} (h : TapeO w T v l) (hb : Below w.heap.size w W) (B : Nat) (d o : Obj) : TapeO ((W.alloc d).alloc o) (Star w T B) v l := by
  have h2 : Below W.heap.size W ((W.alloc d).alloc o) := ((Below.refl _ _).alloc (Nat.le_refl _) _).alloc (by simp) _
  exact (h.now.next (hb.trans (h2.mono hb.size))).imp fun g hg => .inl hg
theorem TapeO.out {w W : World} {T : Nat → Prop} {B : Nat} {v : Value} {l : List Ev} (h : TapeO W (Star w T B) v l) (hB : w.heap.size ≤ B) : TapeO W (fun g => T g ∨ w.heap.size ≤ g) v l :=
  h.imp fun g hg => by rcases hg with ⟨hg, _⟩ | hg; exact .inl hg; exact .inr (by omega)
theorem TapeO.drewN {W : World} {T : Nat → Prop} {v : Value} {l : List Ev} (h : TapeO W T v l) (n : Nat) : TapeO (W.drewN n) T v l := h.next (below_drewN' (Below.refl _ _) n)
theorem tape_put {w W : World} {T : Nat → Prop} {B : Nat} {v : Value} {l : List Ev} (h : TapeO W (Star w T B) v l) {k : Nat} (h1 : w.heap.size ≤ k) (h2 : k < B) (o : Obj) : TapeO (W.putObj k o) (Star w T B) v l :=
  h.keep fun b hb _ => World.putObj_heap_other fun e => Star.not h1 h2 (e ▸ hb)
theorem tape_set {w W : World} {T : Nat → Prop} {B : Nat} {v : Value} {l : List Ev} (h : TapeO W (Star w T B) v l) {k : Nat} (h1 : w.heap.size ≤ k) (h2 : k < B) (x : Value) : TapeO (W.setCell ⟨k, 0, none⟩ x) (Star w T B) v l :=
  h.keep fun b hb _ => Below.heap_setCell _ _ _ _ fun e => Star.not h1 h2 (e ▸ hb)
end Go.Proofs.YtknldcogmbbgjaaDoor
