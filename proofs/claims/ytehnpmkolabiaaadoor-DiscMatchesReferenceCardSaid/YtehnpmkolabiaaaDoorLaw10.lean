/-
  Layer 10: laws.
-/
import Derived.Test.YtehnpmkolabiaaaDoorTapeC
namespace Go.Proofs.YtehnpmkolabiaaaDoor
open Go.RowKit Go.Maps
set_option maxRecDepth 100000
set_option linter.unusedVariables false
set_option linter.unusedSimpArgs false

def WfE (l : List Ev) : Prop := ∀ e ∈ l, (Lit.int .i64 e.k).wf = true
theorem WfE.at_ {l : List Ev} (h : WfE l) {j : Nat} (hj : j < l.length) : (Lit.int .i64 (l[j]'hj).k).wf = true := h _ (List.getElem_mem hj)
/-- record. -/
def RecRel (w : World) (l : List Ev) (tb : Nat) (i : Value) (wr : World) : Prop := ∃ k : Nat, i = .int .i64 k ∧ k ≤ l.length ∧ TapeW wr (fun g => w.heap.size ≤ g) tb (l.take k) ∧ Below w.heap.size w wr
theorem ref10Same_r (A B : Option Addr) (c d : Nat) (l m : List Ev) (T U : Nat → Prop) (w : World) (r : Bool) (ha : EvsR w T A l) (hb : EvsR w U B m) (hl : l.length ≤ 1000000) (hm : m.length ≤ 1000000) (hr : decide (l = m) = r) :
    Calls Tryd.prog 16 #[.slice A l.length c, .slice B m.length d] w fun e w' => e = .returned (.bool r) ∧ ∃ n, w' = w.drewN n := by rw [← hr]; exact ref10Same_any A B c d l m T U w ha hb hl hm
theorem ref10First_r {A B : Option Addr} {c d : Nat} {l m : List Ev} {T U : Nat → Prop} {w : World} {r : Int} (ha : EvsR w T A l) (hb : EvsR w U B m) (hl : l.length ≤ 1000000) (hm : m.length ≤ 1000000) (hr : firstD l m = r) :
    Calls Tryd.prog 24 #[.slice A l.length c, .slice B m.length d] w fun e w' => e = .returned (.int .i64 r) ∧ ∃ n, w' = w.drewN n := hr ▸ ref10First_any A B c d l m T U w ha hb hl hm
theorem tapeNil {w : World} {T : Nat → Prop} : TapeO w T (.pointer none) [] := .inl ⟨rfl, rfl⟩
theorem lit2_evs (w : World) (e f : Ev) (t : TypeId) : EvsR (w.alloc (.cells #[.int .i64 e.k, .int .i64 e.a, .int .i64 e.b, .int .i64 f.k, .int .i64 f.a, .int .i64 f.b] t)) (fun g => w.heap.size ≤ g) (some ⟨w.heap.size, 0, none⟩) [e, f] := fun _ => by
  refine ⟨w.heap.size, 0, rfl, Nat.le_refl _, fun j x hx => ?_⟩
  match j, hx with
  | 0, hx => simp at hx; subst hx; simp [go_sem]
  | 1, hx => simp at hx; subst hx; simp [go_sem]
end Go.Proofs.YtehnpmkolabiaaaDoor
