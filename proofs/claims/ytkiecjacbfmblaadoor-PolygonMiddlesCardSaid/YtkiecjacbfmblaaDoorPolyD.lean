/-
  Layer 14: which events its functions note; what has been looked at. No program is named here.
-/
import Derived.Test.YtkiecjacbfmblaaDoorPoly
import Derived.Test.YtkiecjacbfmblaaDoorTapeL
namespace Go.Proofs.YtkiecjacbfmblaaDoor
open Go.RowKit Go.Maps
set_option maxRecDepth 100000
set_option linter.unusedVariables false
set_option linter.unusedSimpArgs false

/-- The events of one edge: its other vertices. -/
def otherE (n i k : Nat) : List Ev := ((List.range k).filter fun j => !(j == i) && !(j == nx n i)).map fun j : Nat => ⟨4, i, j⟩
def validB (n k : Nat) : List Ev := (List.range k).flatMap fun i => otherE n i n
def okN (n : Nat) : Bool := decide (3 ≤ n) && decide (n ≤ 64)
/-- The events of Valid. -/
def validE (n : Nat) : List Ev := if okN n then validB n n else []
/-- The events of Locate. -/
def locateE (n : Nat) : List Ev := if okN n then evR 5 n else []
theorem okN_iff (n : Nat) : okN n = true ↔ 3 ≤ n ∧ n ≤ 64 := by unfold okN; simp
theorem okN_isP (l : List Pt) : okN l.length = isP l := rfl
theorem otherE_succ (n i k : Nat) : otherE n i (k + 1) = otherE n i k ++ if k = i ∨ k = nx n i then [] else [⟨4, i, k⟩] := by
  unfold otherE
  rw [List.range_succ, List.filter_append, List.map_append]
  congr 1
  by_cases h1 : k = i
  · rw [if_pos (.inl h1)]; simp [h1]
  · by_cases h2 : k = nx n i
    · rw [if_pos (.inr h2)]; simp [h2]
    · rw [if_neg (by omega)]; simp [h1, h2]
theorem validB_succ (n k : Nat) : validB n (k + 1) = validB n k ++ otherE n k n := by unfold validB; rw [List.range_succ, List.flatMap_append]; simp
theorem otherE_len (n i k : Nat) : (otherE n i k).length ≤ k := by
  unfold otherE
  rw [List.length_map]
  refine Nat.le_trans (List.length_filter_le _ _) ?_
  simp
theorem validB_len (n k : Nat) : (validB n k).length ≤ k * n := by
  induction k with
  | zero => simp [validB]
  | succ k ih => rw [validB_succ, List.length_append, Nat.succ_mul]; have := otherE_len n k n; omega
theorem validE_len (n : Nat) : (validE n).length ≤ 4096 := by
  unfold validE
  split
  · rename_i h
    unfold okN at h
    simp only [Bool.and_eq_true, decide_eq_true_eq] at h
    have h1 := validB_len n n
    have h2 : n * n ≤ 64 * 64 := Nat.mul_le_mul h.2 h.2
    omega
  · simp
theorem locateE_len (n : Nat) : (locateE n).length ≤ 64 := by
  unfold locateE
  split
  · rename_i h
    unfold okN at h
    simp only [Bool.and_eq_true, decide_eq_true_eq] at h
    unfold evR
    simp; omega
  · simp
/-- What has been looked at: the vertices below k beside an edge; the edges below k. -/
def rowTo (l : List Pt) (s : Int) (i k : Nat) : Prop := ∀ j, j < k → j ≠ i → j ≠ nx l.length i → side l i (Go.Proofs.YtkiecjacbfmblaaDoor.at_ l j) = s
def goodTo (l : List Pt) (s : Int) (k : Nat) : Prop := ∀ i, i < k → rowTo l s i l.length
theorem rowTo_zero (l : List Pt) (s : Int) (i : Nat) : rowTo l s i 0 := fun j h => by omega
theorem rowTo_skip {l : List Pt} {s : Int} {i k : Nat} (h : rowTo l s i k) (hk : k = i ∨ k = nx l.length i) : rowTo l s i (k + 1) := fun j h1 h2 h3 => h j (by omega) h2 h3
theorem rowTo_succ {l : List Pt} {s : Int} {i k : Nat} (h : rowTo l s i k) (hk : side l i (Go.Proofs.YtkiecjacbfmblaaDoor.at_ l k) = s) : rowTo l s i (k + 1) := fun j h1 h2 h3 => by
  by_cases e : j = k
  · subst e; exact hk
  · exact h j (by omega) h2 h3
theorem goodTo_zero (l : List Pt) (s : Int) : goodTo l s 0 := fun j h => by omega
theorem goodTo_succ {l : List Pt} {s : Int} {k : Nat} (h : goodTo l s k) (hk : rowTo l s k l.length) : goodTo l s (k + 1) := fun j h1 => by
  by_cases e : j = k
  · subst e; exact hk
  · exact h j (by omega)
theorem validP_lo {l : List Pt} (h : isP l = false) : validP l = false := by unfold validP; rw [h]; rfl
theorem validP_no {l : List Pt} {s : Int} {i j : Nat} (hs : orP l = s) (hi : i < l.length) (hj : j < l.length) (h1 : j ≠ i) (h2 : j ≠ nx l.length i) (h : side l i (Go.Proofs.YtkiecjacbfmblaaDoor.at_ l j) ≠ s) : validP l = false := by
  unfold validP
  rw [decide_eq_false (p := good l (orP l)) (fun hg => h (by rw [← hs]; exact hg i hi j hj h1 h2)), Bool.and_false]
theorem validP_end {l : List Pt} {s : Int} (hp : isP l = true) (hs : orP l = s) (h : goodTo l s l.length) : validP l = (s != 0) := by
  unfold validP
  rw [hp, decide_eq_true (p := good l (orP l)) (fun i hi j hj h1 h2 => by rw [hs]; exact h i hi j hj h1 h2), hs]
  by_cases e : s = 0 <;> simp [e]
theorem tmod_nx {n i : Nat} (h : i < n) : ((i : Int) + 1).tmod (n : Int) = (nx n i : Nat) := by
  rw [show ((i : Int) + 1) = ((i + 1 : Nat) : Int) by omega, ← Int.ofNat_tmod, nx_mod h]
theorem emod_nx {n i : Nat} (h : i < n) : ((i : Int) + 1) % (n : Int) = (nx n i : Nat) := by
  rw [show ((i : Int) + 1) = ((i + 1 : Nat) : Int) by omega, ← Int.natCast_emod, nx_mod h]
end Go.Proofs.YtkiecjacbfmblaaDoor
