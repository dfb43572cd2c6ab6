/-
  Discs: mathematics (no program).
-/
import Derived.Test.YtehnpmkolabiaaaDoorPtB
import Derived.Test.YtehnpmkolabiaaaDoorRef07
import Derived.Test.YtehnpmkolabiaaaDoorTapeL
namespace Go.Proofs.YtehnpmkolabiaaaDoor
open Go.RowKit Go.Maps
set_option maxRecDepth 100000
set_option linter.unusedVariables false
set_option linter.unusedSimpArgs false

/-- The position of a point relative to the circle through three points. -/
def sideC (a b c d : Pt) : Int := (lc a.x a.y b.x b.y c.x c.y d.x d.y * det a.x a.y b.x b.y c.x c.y).sign
theorem sgn_det (a b c : Pt) : sgnP a b c = (det a.x a.y b.x b.y c.x c.y).sign := rfl
theorem sideC_swap (a b c d : Pt) : sideC b a c d = sideC a b c d := by unfold sideC; rw [side_swap]
theorem sideC_rot (a b c d : Pt) : sideC c a b d = sideC a b c d := by unfold sideC; rw [side_rot]
theorem sideC_1 (a b c : Pt) : sideC a b c a = 0 := by unfold sideC; rw [lc_same1, Int.zero_mul]; rfl
theorem sideC_2 (a b c : Pt) : sideC a b c b = 0 := by unfold sideC; rw [lc_same2, Int.zero_mul]; rfl
theorem sideC_3 (a b c : Pt) : sideC a b c c = 0 := by unfold sideC; rw [lc_same3, Int.zero_mul]; rfl
theorem sideC_flat {a b c : Pt} (h : sgnP a b c = 0) (d : Pt) : sideC a b c d = 0 := by
  rw [sgn_det] at h
  unfold sideC
  rw [Int.sign_eq_zero_iff_zero.1 h, Int.mul_zero]; rfl
theorem sideC_in (a b c d : Pt) : sideC a b c d = -1 ∨ sideC a b c d = 0 ∨ sideC a b c d = 1 := by
  unfold sideC
  rcases Int.lt_trichotomy (lc a.x a.y b.x b.y c.x c.y d.x d.y * det a.x a.y b.x b.y c.x c.y) 0 with h | h | h
  · exact .inl (Int.sign_eq_neg_one_of_neg h)
  · rw [h]; exact .inr (.inl rfl)
  · exact .inr (.inr (Int.sign_eq_one_of_pos h))
/-- The middle of two points of the boundary. -/
theorem mid_lc {xa ya xb yb xc yc xm ym : Int} (hx : 2 * xm = xa + xb) (hy : 2 * ym = ya + yb) :
    lc xa ya xb yb xc yc xm ym * det xa ya xb yb xc yc = ((xa - xm) * (xa - xm) + (ya - ym) * (ya - ym)) * (det xa ya xb yb xc yc * det xa ya xb yb xc yc) := by
  obtain rfl : xb = 2 * xm - xa := by omega
  obtain rfl : yb = 2 * ym - ya := by omega
  rw [lc_vec]; unfold lv det; grind
theorem mid_in {a b c m : Pt} (hs : sgnP a b c ≠ 0) (hx : 2 * m.x = a.x + b.x) (hy : 2 * m.y = a.y + b.y) : sideC a b c m = 1 := by
  have hd : det a.x a.y b.x b.y c.x c.y ≠ 0 := fun h => hs (by rw [sgn_det, h]; rfl)
  have hd2 : 0 < det a.x a.y b.x b.y c.x c.y * det a.x a.y b.x b.y c.x c.y := by
    rcases Int.lt_or_lt_of_ne hd with h | h
    · exact Int.mul_pos_of_neg_of_neg h h
    · exact Int.mul_pos h h
  have hsq : ∀ z : Int, 0 ≤ z * z := fun z => by
    rcases Int.le_total 0 z with h | h
    · exact Int.mul_nonneg h h
    · exact Int.mul_nonneg_of_nonpos_of_nonpos h h
  have hp : 0 < (a.x - m.x) * (a.x - m.x) + (a.y - m.y) * (a.y - m.y) := by
    have h1 := hsq (a.x - m.x)
    have h2 := hsq (a.y - m.y)
    by_cases e : a.x - m.x = 0 ∧ a.y - m.y = 0
    · exact absurd (show det a.x a.y b.x b.y c.x c.y = 0 by
        rw [show b.x = a.x by omega, show b.y = a.y by omega]; unfold det; grind) hd
    · have : 0 < (a.x - m.x) * (a.x - m.x) ∨ 0 < (a.y - m.y) * (a.y - m.y) := by
        by_cases e1 : a.x - m.x = 0
        · right
          have e2 : a.y - m.y ≠ 0 := fun h => e ⟨e1, h⟩
          rcases Int.lt_or_lt_of_ne e2 with h | h
          · exact Int.mul_pos_of_neg_of_neg h h
          · exact Int.mul_pos h h
        · left
          rcases Int.lt_or_lt_of_ne e1 with h | h
          · exact Int.mul_pos_of_neg_of_neg h h
          · exact Int.mul_pos h h
      omega
  unfold sideC
  rw [mid_lc hx hy, Int.sign_eq_one_of_pos (Int.mul_pos hp hd2)]
/-- A circle of known centre and radius. -/
theorem radius_lc (x y n u v : Int) : lc (x + 5 * n) y (x - 3 * n) (y + 4 * n) x (y - 5 * n) (x + u) (y + v) * det (x + 5 * n) y (x - 3 * n) (y + 4 * n) x (y - 5 * n) = (60 * (n * n)) * (60 * (n * n)) * (25 * (n * n) - (u * u + v * v)) := by
  rw [lc_vec]; unfold lv det; grind
theorem radius_det (x y n : Int) : det (x + 5 * n) y (x - 3 * n) (y + 4 * n) x (y - 5 * n) = 60 * (n * n) := by unfold det; grind
theorem radius_side {x y n u v : Int} (hn : 1 ≤ n) : sideC ⟨x + 5 * n, y⟩ ⟨x - 3 * n, y + 4 * n⟩ ⟨x, y - 5 * n⟩ ⟨x + u, y + v⟩ = -(u * u + v * v - 25 * n * n).sign := by
  unfold sideC
  simp only
  rw [radius_lc, Int.sign_mul, Int.sign_mul]
  have h1 : 0 < n * n := Int.mul_pos (by omega) (by omega)
  rw [Int.sign_eq_one_of_pos (a := 60 * (n * n)) (by omega), ← Int.sign_neg]
  rw [show (1 : Int) * 1 = 1 from rfl, Int.one_mul]
  congr 1
  rw [Int.mul_assoc 25 n n]; omega
theorem radius_sgn {x y n : Int} (hn : 1 ≤ n) : sgnP ⟨x + 5 * n, y⟩ ⟨x - 3 * n, y + 4 * n⟩ ⟨x, y - 5 * n⟩ = 1 := by
  rw [sgn_det]
  simp only
  rw [radius_det]
  have h1 : 0 < n * n := Int.mul_pos (by omega) (by omega)
  exact Int.sign_eq_one_of_pos (by omega)
/-- Discs. -/
def triS (l : List Pt) : Int := sgnP (at_ l 0) (at_ l 1) (at_ l 2)
def validD (l : List Pt) : Bool := l.length == 3 && triS l != 0
def locD (l : List Pt) (p : Pt) : Int := if l.length = 3 then sideC (at_ l 0) (at_ l 1) (at_ l 2) p else -1
def validDE (n : Nat) : List Ev := if n = 3 then [⟨4, 0, 2⟩] else []
def locDE (n : Nat) : List Ev := if n = 3 then [⟨6, 0, 0⟩] else []
theorem validD_3 {l : List Pt} (h : l.length = 3) : validD l = (triS l != 0) := by unfold validD; rw [h]; rfl
theorem validD_no {l : List Pt} (h : ¬ l.length = 3) : validD l = false := by unfold validD; rw [beq_eq_false_iff_ne.2 h]; rfl
theorem locD_3 {l : List Pt} (h : l.length = 3) (p : Pt) : locD l p = sideC (at_ l 0) (at_ l 1) (at_ l 2) p := by unfold locD; rw [if_pos h]
theorem locD_no {l : List Pt} (h : ¬ l.length = 3) (p : Pt) : locD l p = -1 := by unfold locD; rw [if_neg h]
end Go.Proofs.YtehnpmkolabiaaaDoor
