/-
  Words for memory: a slice that reads as a list of numbers, kept over what a call lays; rows of the call's own. No program is named here.
-/
import Derived.Test.YtdcckjpeibnkbaaDoorRows
import Derived.Below
import Derived.WalkKit
import Derived.ProofKit
import Derived.Laws.OwnMore
import Derived.OwnWalk
import Derived.Deep.Draws
import Derived.Lib.Hide
namespace Go.Proofs.YtdcckjpeibnkbaaDoor
open Go.RowKit

theorem lt_of_cell {w : World} {b o : Nat} {v : Value} (h : w.cell? ⟨b, o, none⟩ = some v) : b < w.heap.size := by
  rcases Nat.lt_or_ge b w.heap.size with h' | h'
  · exact h'
  · rw [World.cell?] at h
    simp [Array.getElem?_eq_none h'] at h
/-- The cells behind a slice's address are the numbers of ds; they lie in a block that S admits. -/
def SlR (w : World) (S : Nat → Prop) (k : IntKind) (A : Option Addr) (ds : List Int) : Prop :=
  0 < ds.length → ∃ b off, A = some ⟨b, off, none⟩ ∧ S b ∧ ∀ j d, ds[j]? = some d → w.cell? ⟨b, off + j, none⟩ = some (.int k d)
theorem SlR.nil_ (w : World) (S : Nat → Prop) (k : IntKind) (A : Option Addr) : SlR w S k A [] := fun h => absurd h (by simp)
theorem SlR.at_ {w : World} {S : Nat → Prop} {k : IntKind} {A : Option Addr} {ds : List Int} (h : SlR w S k A ds) {j : Nat} (hj : j < ds.length) :
    ∃ b off, A = some ⟨b, off, none⟩ ∧ S b ∧ w.cell? ⟨b, off + j, none⟩ = some (.int k (ds[j]'hj)) := by
  obtain ⟨b, off, e, hb, hc⟩ := h (by omega)
  exact ⟨b, off, e, hb, hc j _ (List.getElem?_eq_getElem hj)⟩
theorem SlR.keep {w w' : World} {S : Nat → Prop} {k : IntKind} {A : Option Addr} {ds : List Int} (h : SlR w S k A ds) (hk : ∀ b o, S b → b < w.heap.size → w'.cell? ⟨b, o, none⟩ = w.cell? ⟨b, o, none⟩) : SlR w' S k A ds := fun hl => by
  obtain ⟨b, off, e, hS, hc⟩ := h hl
  exact ⟨b, off, e, hS, fun j d hd => (hk b _ hS (lt_of_cell (hc j d hd))).trans (hc j d hd)⟩
/-- Into a later world. -/
theorem SlR.next {w w' : World} {S : Nat → Prop} {k : IntKind} {A : Option Addr} {ds : List Int} (h : SlR w S k A ds) (hb : Below w.heap.size w w') : SlR w' S k A ds :=
  h.keep fun b o _ hlt => hb.cell (p := ⟨b, o, none⟩) hlt
theorem SlR.imp {w : World} {S T : Nat → Prop} {k : IntKind} {A : Option Addr} {ds : List Int} (h : SlR w S k A ds) (hST : ∀ b, S b → T b) : SlR w T k A ds := fun hl => by
  obtain ⟨b, off, e, hS, hc⟩ := h hl
  exact ⟨b, off, e, hST b hS, hc⟩
theorem SlR.set_ {w : World} {S : Nat → Prop} {k : IntKind} {A : Option Addr} {ds : List Int} (h : SlR w S k A ds) (b o : Nat) (v : Value) (hne : ¬ S b) : SlR (w.setCell ⟨b, o, none⟩ v) S k A ds :=
  h.keep fun c p hS _ => World.cell?_of_block (Below.heap_setCell w ⟨b, o, none⟩ v c (fun e => hne (by subst e; exact hS)))
theorem SlR.lt {w : World} {S : Nat → Prop} {k : IntKind} {A : Option Addr} {ds : List Int} (h : SlR w S k A ds) : SlR w (fun b => S b ∧ b < w.heap.size) k A ds := fun hl => by
  obtain ⟨b, off, e, hS, hc⟩ := h hl
  exact ⟨b, off, e, ⟨hS, lt_of_cell (hc 0 _ (List.getElem?_eq_getElem hl))⟩, hc⟩
theorem SlR.take {w : World} {S : Nat → Prop} {k : IntKind} {A : Option Addr} {ds : List Int} (h : SlR w S k A ds) (n : Nat) : SlR w S k A (ds.take n) := fun hl => by
  obtain ⟨b, off, e, hlt, hc⟩ := h (by rw [List.length_take] at hl; omega)
  refine ⟨b, off, e, hlt, fun j d hd => hc j d ?_⟩
  rw [List.getElem?_take] at hd
  split at hd
  · exact hd
  · cases hd
theorem below_drewN' {B : Nat} {a w : World} (h : Below B a w) (n : Nat) : Below B a (w.drewN n) := ⟨h.os, h.tape, h.output, h.size, h.block⟩
/-- What a row of the call's own reads as. -/
theorem own_form {w : World} {base : Nat} {e : TypeId} {k : IntKind} {v : Value} {n : Nat} {ds : List Int} (h : w.ownsRow base e 1 v n (ds.map (Value.int k))) :
    n = ds.length ∧ ∃ A c, v = .slice A ds.length c ∧ ds.length ≤ c ∧ c ≤ maxLen ∧ SlR w (fun b => base ≤ b) k A ds := by
  have hn : n = ds.length := by have := h.1; simpa using this.symm
  subst hn
  refine ⟨rfl, ?_⟩
  rcases h.2 with ⟨rfl, h0⟩ | ⟨g, cap, cur, rfl, hg, hh, hc, hm, hs, ht⟩
  · exact ⟨none, 0, by rw [h0], by omega, by unfold maxLen; omega, fun hl => by omega⟩
  · refine ⟨some ⟨g, 0, none⟩, cap, rfl, hc, hm, fun _ => ⟨g, 0, rfl, hg, fun j d hd => ?_⟩⟩
    have hj : j < ds.length := by
      rcases Nat.lt_or_ge j ds.length with hlt | hge
      · exact hlt
      · rw [List.getElem?_eq_none hge] at hd; cases hd
    rw [Nat.zero_add, h.cellAt j (by omega), List.getElem?_map, hd]; rfl
theorem cell_below {W w1 : World} (hb : Below W.heap.size W w1) : (∀ b o, b < W.heap.size → w1.cell? ⟨b, o, none⟩ = W.cell? ⟨b, o, none⟩) ∧ (∀ b o, b < W.heap.size → w1.frozen? ⟨b, o, none⟩ = W.frozen? ⟨b, o, none⟩) :=
  ⟨fun b o h => hb.cell (p := ⟨b, o, none⟩) h, fun b o h => hb.frozen (p := ⟨b, o, none⟩) h⟩
/-- The one cell that an append of one element takes. -/
theorem one_cell (w : World) (v : Value) (t : TypeId) : ∀ j u, [v][j]? = some u → (w.alloc (.cells #[v] t)).cell? ((⟨w.heap.size, 0, none⟩ : Addr).add j) = some u := by
  intro j u hj
  match j, hj with
  | 0, hj => simp at hj; subst hj; simp [Addr.add, go_sem]
theorem one_oneCell (k : IntKind) (n : Int) : ∀ u ∈ [Value.int k n], u.oneCell' = true := by intro u hu; simp at hu; subst hu; rfl
/-- A row of numbers that the call owns. -/
def OwnK (w : World) (base : Nat) (e : TypeId) (k : IntKind) (v : Value) (os : List Int) : Prop := w.ownsRow base e 1 v os.length (os.map (Value.int k))
theorem OwnK.nil_ (w : World) (base : Nat) (e : TypeId) (k : IntKind) : OwnK w base e k (.slice none 0 0) [] := World.ownsRow_nil _ _ _ _
theorem OwnK.form {w : World} {base : Nat} {e : TypeId} {k : IntKind} {v : Value} {os : List Int} (h : OwnK w base e k v os) :
    ∃ A c, v = .slice A os.length c ∧ os.length ≤ c ∧ c ≤ maxLen ∧ SlR w (fun b => base ≤ b) k A os := (own_form h).2
/-- append of one number onto a row of the call's own. -/
theorem wp_app1 {P : Program} {w : World} {ops : Array Oper} {rest : List Oper} {o : Oper} {a : Act} {Q : Exit → Act → World → Prop} (hgd : o.guard = none) (s x : Operand) (t : TypeId)
    (ho : o.op = .call { callee := .builtin .append, args := #[s, x], argTypes := #[t, t] })
    (base : Nat) (e : TypeId) (k : IntKind) (i : TypeInfo) (z : Value) (ht : P.underlying t = some (.slice e)) (hi : P.info? e = some i) (hz : i.zero = some z) (hsize : i.size = 1) (hby : i.bytes = 8) (hzs : z.cells.size = 1)
    (v : Value) (os : List Int) (n : Int) (hs : a.eval s = v) (hown : OwnK w base e k v os) (hx : a.eval x = .slice (some ⟨w.heap.size, 0, none⟩) 1 1)
    (hlen : os.length ≤ 1000000000) (hbase : base ≤ w.heap.size)
    (h : ∀ v' w', OwnK w' base e k v' (os ++ [n]) → Below base w w' → wpList P ops Q rest (a.put o.dst v') w') : wpList P ops Q (o :: rest) a (w.alloc (.cells #[.int k n] e)) := by
  refine wpList_append_own _ hgd s x t ho base e i z 1 8 ht hi hz hsize hby hzs (by decide) v os.length (os.map (Value.int k)) hs (World.ownsRow.alloc hown _) ⟨w.heap.size, 0, none⟩ 1 1 [.int k n] hx rfl (one_cell _ _ _) (one_oneCell _ _)
    (by unfold maxLen; omega) (by omega) (by simp; omega) fun v' w' h1 h2 _ => h v' w' ?_ ?_
  · unfold OwnK
    rw [List.length_append, List.map_append]
    exact h1
  · have hb : Below base w (w.alloc (.cells #[.int k n] e)) := (Below.refl _ _).alloc hbase _
    exact hb.grown h2 (by simp; omega) (fun g hg => (World.ownsRow.lt hown g hg).1)
end Go.Proofs.YtdcckjpeibnkbaaDoor
