/-
  slices.Clone, Grow, Concat and Reverse of api.Point. (Written by rows.py.)
-/
import Derived.Test.YtehnpmkolabiaaaDoorPtB
import Derived.Lib.AppendZeros
import Derived.Shelf.RegionOpenPlain
namespace Go.Proofs.YtehnpmkolabiaaaDoor
open Go.RowKit
set_option maxRecDepth 100000
set_option linter.unusedVariables false
set_option linter.unusedSimpArgs false

/-- What a call that makes a row of its own gives. -/
def GivesPt (w : World) (l : List Pt) (e : Ending) (w' : World) : Prop := ∃ v, e = .returned v ∧ w'.ownsRow w.heap.size 24 2 v l.length (l.flatMap ptC) ∧ Below w.heap.size w w'
/-- A slice of slices, in memory. -/
structure PtLs (w : World) (b o : Nat) (Ls : List (Option Addr × Nat × List Pt)) : Prop where
  cell : ∀ j p, Ls[j]? = some p → w.cell? ⟨b, o + j, none⟩ = some (.slice p.1 p.2.2.length p.2.1)
  rows : ∀ p ∈ Ls, RowR w (fun _ => True) 2 ptC p.1 p.2.2 ∧ (p.1 = none → p.2.1 = 0)
theorem PtLs.next {w w' : World} {b o : Nat} {Ls : List (Option Addr × Nat × List Pt)} (h : PtLs w b o Ls) (hb : Below w.heap.size w w') : PtLs w' b o Ls :=
  ⟨fun j p hp => (hb.cell (p := ⟨b, o + j, none⟩) (lt_of_cell (h.cell j p hp))).trans (h.cell j p hp), fun p hp => ⟨(h.rows p hp).1.next hb, (h.rows p hp).2⟩⟩
def totPt (Ls : List (Option Addr × Nat × List Pt)) : List Pt := Ls.flatMap fun p => p.2.2
theorem totPt_snoc (Ls : List (Option Addr × Nat × List Pt)) (k : Nat) (h : k < Ls.length) : totPt (Ls.take (k + 1)) = totPt (Ls.take k) ++ Ls[k].2.2 := by
  unfold totPt; rw [List.take_succ_eq_append_getElem h, List.flatMap_append]; simp
theorem totPt_le (Ls : List (Option Addr × Nat × List Pt)) (k : Nat) : (totPt (Ls.take k)).length ≤ (totPt Ls).length := by
  have : totPt Ls = totPt (Ls.take k) ++ totPt (Ls.drop k) := by unfold totPt; rw [← List.flatMap_append, List.take_append_drop]
  rw [this, List.length_append]; omega
def RevRelPt (W : World) (B g n cap : Nat) (ds : List Pt) (i j : Value) (wr : World) : Prop :=
  ∃ (k : Nat) (os : List Pt), i = .int .i64 k ∧ j = .int .i64 ((n : Int) - 1 - k) ∧ 2 * k ≤ n ∧ wr.ownsRow B 24 2 (.slice (some ⟨g, 0, none⟩) n cap) n (os.flatMap ptC) ∧ os.length = n ∧
    (∀ t, t < n → os[t]? = if t < k ∨ n - 1 - k < t then ds[n - 1 - t]? else ds[t]?) ∧ Below B W wr
end Go.Proofs.YtehnpmkolabiaaaDoor
