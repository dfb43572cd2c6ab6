/-
  A tape, or none, in loops: what a function with boxes of its own keeps while events are noted.
-/
import Derived.Test.YtehnpmkolabiaaaDoorTapeC
import Derived.Test.YtehnpmkolabiaaaDoorRf
namespace Go.Proofs.YtehnpmkolabiaaaDoor
open Go.RowKit Go.Maps
set_option maxRecDepth 100000
set_option linter.unusedVariables false
set_option linter.unusedSimpArgs false

/-- The events behind more events: none for no tape. -/
def addT (v : Value) (l m : List Ev) : List Ev := match v with
  | .pointer none => []
  | _ => l ++ m
theorem addT_some (tb : Nat) (l m : List Ev) : addT (.pointer (some ⟨tb, 0, none⟩)) l m = l ++ m := rfl
theorem addT_none (l m : List Ev) : addT (.pointer none) l m = [] := rfl
/-- One event for each of the first k indices. -/
def evR (kind : Int) (k : Nat) : List Ev := (List.range k).map fun i : Nat => ⟨kind, i, 0⟩
theorem evR_succ (kind : Int) (k : Nat) : evR kind (k + 1) = evR kind k ++ [⟨kind, k, 0⟩] := by unfold evR; rw [List.range_succ]; simp
theorem TapeO.now {w : World} {T : Nat → Prop} {v : Value} {l : List Ev} (h : TapeO w T v l) : TapeO w (fun g => T g ∧ g < w.heap.size) v l := by
  rcases h with h | ⟨tb, e, h⟩
  · exact .inl h
  · exact .inr ⟨tb, e, h.now⟩
theorem TapeO.imp {w : World} {T U : Nat → Prop} {v : Value} {l : List Ev} (h : TapeO w T v l) (hTU : ∀ b, T b → U b) : TapeO w U v l := by
  rcases h with h | ⟨tb, e, h⟩
  · exact .inl h
  · exact .inr ⟨tb, e, h.imp hTU⟩
theorem TapeO.keep {w w' : World} {T : Nat → Prop} {v : Value} {l : List Ev} (h : TapeO w T v l) (hk : ∀ b, T b → b < w.heap.size → w'.heap[b]? = w.heap[b]?) : TapeO w' T v l := by
  rcases h with h | ⟨tb, e, h⟩
  · exact .inl h
  · exact .inr ⟨tb, e, h.keep hk⟩
theorem TapeO.next {w w' : World} {T : Nat → Prop} {v : Value} {l : List Ev} (h : TapeO w T v l) (hb : Below w.heap.size w w') : TapeO w' T v l := h.keep fun b _ hlt => hb.block b hlt
/-- Note, for a tape or none. -/
theorem noteO_any (v : Value) (l : List Ev) (T : Nat → Prop) (k a b : Int) (w : World) (h : TapeO w T v l) (hl : l.length ≤ 1000000) (hk : (Lit.int .i64 k).wf = true) (hT : ∀ g, w.heap.size ≤ g → T g) :
    Calls Tryd.prog 19 #[v, .int .i64 k, .int .i64 a, .int .i64 b] w fun e w' => e = .returned (.tuple #[]) ∧ TapeO w' T v (addT v l [⟨k, a, b⟩]) ∧ Moved T w w' := by
  rcases h with ⟨rfl, rfl⟩ | ⟨tb, rfl, h⟩
  · refine (tapeNoteNil_any k a b w).mono ?_
    rintro e w' ⟨rfl, rfl⟩
    exact ⟨rfl, .inl ⟨rfl, rfl⟩, Moved.refl _ _⟩
  · refine (tapeNote_any tb l T k a b w h hl hk).mono ?_
    rintro e w' ⟨rfl, ht, hm⟩
    exact ⟨rfl, .inr ⟨tb, rfl, ht.imp fun g hg => hg.elim id (hT g)⟩, hm⟩
theorem tape_start {w W : World} {T : Nat → Prop} {v : Value} {l : List Ev} (h : TapeO w T v l) (hb : Below w.heap.size w W) (B : Nat) (d o : Obj) : TapeO ((W.alloc d).alloc o) (Star w T B) v l := by
  have h2 : Below W.heap.size W ((W.alloc d).alloc o) := ((Below.refl _ _).alloc (Nat.le_refl _) _).alloc (by simp) _
  exact (h.now.next (hb.trans (h2.mono hb.size))).imp fun g hg => .inl hg
theorem TapeO.out {w W : World} {T : Nat → Prop} {B : Nat} {v : Value} {l : List Ev} (h : TapeO W (Star w T B) v l) (hB : w.heap.size ≤ B) : TapeO W (fun g => T g ∨ w.heap.size ≤ g) v l :=
  h.imp fun g hg => by rcases hg with ⟨hg, _⟩ | hg; exact .inl hg; exact .inr (by omega)
theorem TapeO.drewN {W : World} {T : Nat → Prop} {v : Value} {l : List Ev} (h : TapeO W T v l) (n : Nat) : TapeO (W.drewN n) T v l := h.next (below_drewN' (Below.refl _ _) n)
theorem tape_put {w W : World} {T : Nat → Prop} {B : Nat} {v : Value} {l : List Ev} (h : TapeO W (Star w T B) v l) {k : Nat} (h1 : w.heap.size ≤ k) (h2 : k < B) (o : Obj) : TapeO (W.putObj k o) (Star w T B) v l :=
  h.keep fun b hb _ => World.putObj_heap_other fun e => Star.not h1 h2 (e ▸ hb)
theorem tape_set {w W : World} {T : Nat → Prop} {B : Nat} {v : Value} {l : List Ev} (h : TapeO W (Star w T B) v l) {k : Nat} (h1 : w.heap.size ≤ k) (h2 : k < B) (x : Value) : TapeO (W.setCell ⟨k, 0, none⟩ x) (Star w T B) v l :=
  h.keep fun b hb _ => Below.heap_setCell _ _ _ _ fun e => Star.not h1 h2 (e ▸ hb)
theorem addT_assoc (v : Value) (l m n : List Ev) : addT v (addT v l m) n = addT v l (m ++ n) := by
  unfold addT
  split <;> simp
theorem addT_nil {w : World} {T : Nat → Prop} {v : Value} {l : List Ev} (h : TapeO w T v l) : addT v l [] = l := by
  rcases h with ⟨rfl, rfl⟩ | ⟨tb, rfl, _⟩
  · rfl
  · rw [addT_some, List.append_nil]
theorem moved_mix {T : Nat → Prop} {w W w' : World} (hb : Below w.heap.size w W) (hm : Moved (fun g => (T g ∧ g < w.heap.size) ∨ W.heap.size ≤ g) W w') : Moved T w w' :=
  ⟨hm.os.trans hb.os, hm.tape.trans hb.tape, hm.output.trans hb.output, Nat.le_trans hb.size hm.size, fun g hg hT => (hm.block g (Nat.lt_of_lt_of_le hg hb.size) (fun h => by rcases h with h | h; exact hT h.1; have := hb.size; omega)).trans (hb.block g hg)⟩
theorem tape_mix {T : Nat → Prop} {w W : World} {v : Value} {l : List Ev} (h : TapeO w T v l) (hb : Below w.heap.size w W) : TapeO W (fun g => (T g ∧ g < w.heap.size) ∨ W.heap.size ≤ g) v l := (h.now.next hb).imp fun g hg => .inl hg
theorem moved_setc {S : Nat → Prop} {W : World} {b o : Nat} {v : Value} (h : S b) : Moved S W (W.setCell ⟨b, o, none⟩ v) :=
  ⟨rfl, rfl, rfl, by simp, fun g _ hS => Below.heap_setCell _ _ _ _ (fun e => hS (by rw [e]; exact h))⟩
theorem tape_setc {w W : World} {T : Nat → Prop} {B : Nat} {v : Value} {l : List Ev} (h : TapeO W (Star w T B) v l) {b o : Nat} (h1 : ¬ T b) (h2 : b < B) (x : Value) : TapeO (W.setCell ⟨b, o, none⟩ x) (Star w T B) v l :=
  h.keep fun c hc _ => Below.heap_setCell _ _ _ _ (fun e => by subst e; rcases hc with hc | hc; exact h1 hc.1; omega)
theorem moved_out {T : Nat → Prop} {w W w' : World} (h : Moved T w W) (k : Moved (fun g => T g ∨ w.heap.size ≤ g) W w') : Moved T w w' :=
  ⟨k.os.trans h.os, k.tape.trans h.tape, k.output.trans h.output, Nat.le_trans h.size k.size, fun g hg hT => (k.block g (Nat.lt_of_lt_of_le hg h.size) (fun h2 => h2.elim hT (fun h3 => by omega))).trans (h.block g hg hT)⟩
theorem moved_own {T : Nat → Prop} {w W W' : World} {g : Nat} (h : Moved T w W) (k : Moved (fun b => b = g) W W') (hg : w.heap.size ≤ g) : Moved T w W' :=
  ⟨k.os.trans h.os, k.tape.trans h.tape, k.output.trans h.output, Nat.le_trans h.size k.size, fun b hb hT => (k.block b (Nat.lt_of_lt_of_le hb h.size) (fun e => by omega)).trans (h.block b hb hT)⟩
theorem addT_evR {v : Value} {l : List Ev} {kind : Int} {k : Nat} : addT v (addT v l (evR kind k)) [⟨kind, k, 0⟩] = addT v l (evR kind (k + 1)) := by rw [addT_assoc, evR_succ]
theorem addT_le (v : Value) (l m : List Ev) : (addT v l m).length ≤ l.length + m.length := by unfold addT; split <;> simp
theorem evR_len (kind : Int) (k : Nat) : (evR kind k).length = k := by unfold evR; simp
end Go.Proofs.YtehnpmkolabiaaaDoor
