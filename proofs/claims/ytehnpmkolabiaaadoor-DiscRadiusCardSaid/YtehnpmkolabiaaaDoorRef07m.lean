/-
  The lifted determinant: its laws and its range.
-/
import Derived.Test.YtehnpmkolabiaaaDoorOrientC
namespace Go.Proofs.YtehnpmkolabiaaaDoor
open Go.RowKit
set_option maxRecDepth 100000
set_option linter.unusedVariables false
set_option linter.unusedSimpArgs false

/-- The lifted determinant of four points. -/
def lc (xa ya xb yb xc yc xd yd : Int) : Int :=
  (xa * xa + ya * ya) * det xb yb xc yc xd yd - (xb * xb + yb * yb) * det xa ya xc yc xd yd + ((xc * xc + yc * yc) * det xa ya xb yb xd yd - (xd * xd + yd * yd) * det xa ya xb yb xc yc)
/-- That of three vectors. -/
def lv (p q r s t u : Int) : Int := (p * p + q * q) * (r * u - s * t) - (r * r + s * s) * (p * u - q * t) + (t * t + u * u) * (p * s - q * r)
theorem det_swap (xa ya xb yb xc yc : Int) : det xb yb xa ya xc yc = -det xa ya xb yb xc yc := by unfold det; grind
theorem det_swap2 (xa ya xb yb xc yc : Int) : det xa ya xc yc xb yb = -det xa ya xb yb xc yc := by unfold det; grind
theorem det_rot (xa ya xb yb xc yc : Int) : det xc yc xa ya xb yb = det xa ya xb yb xc yc := by unfold det; grind
theorem lc_vec (xa ya xb yb xc yc xd yd : Int) : lc xa ya xb yb xc yc xd yd = lv (xa - xd) (ya - yd) (xb - xd) (yb - yd) (xc - xd) (yc - yd) := by unfold lc lv det; grind
theorem lc_swap (xa ya xb yb xc yc xd yd : Int) : lc xb yb xa ya xc yc xd yd = -lc xa ya xb yb xc yc xd yd := by
  unfold lc
  rw [det_swap xa ya xb yb xd yd, det_swap xa ya xb yb xc yc]
  grind
theorem lc_swap2 (xa ya xb yb xc yc xd yd : Int) : lc xa ya xc yc xb yb xd yd = -lc xa ya xb yb xc yc xd yd := by
  unfold lc
  rw [det_swap xb yb xc yc xd yd, det_swap2 xa ya xb yb xc yc]
  grind
theorem lc_swap3 (xa ya xb yb xc yc xd yd : Int) : lc xa ya xb yb xd yd xc yc = -lc xa ya xb yb xc yc xd yd := by
  unfold lc
  rw [det_swap2 xb yb xc yc xd yd, det_swap2 xa ya xc yc xd yd]
  grind
theorem lv_bd {p q r s t u : Int} (hp : -18446744073709551615 ≤ p ∧ p ≤ 18446744073709551615) (hq : -18446744073709551615 ≤ q ∧ q ≤ 18446744073709551615) (hr : -18446744073709551615 ≤ r ∧ r ≤ 18446744073709551615) (hs : -18446744073709551615 ≤ s ∧ s ≤ 18446744073709551615) (ht : -18446744073709551615 ≤ t ∧ t ≤ 18446744073709551615) (hu : -18446744073709551615 ≤ u ∧ u ≤ 18446744073709551615) :
    (lv p q r s t u).natAbs ≤ 2 ^ 262 := by
  have sq : ∀ {a b : Int}, (-18446744073709551615 ≤ a ∧ a ≤ 18446744073709551615) → (-18446744073709551615 ≤ b ∧ b ≤ 18446744073709551615) → (a * a + b * b).natAbs ≤ 2 ^ 129 := fun ha hb => by
    have h1 := prod_bd ha ha
    have h2 := prod_bd hb hb
    omega
  have cr : ∀ {a b c d : Int}, (-18446744073709551615 ≤ a ∧ a ≤ 18446744073709551615) → (-18446744073709551615 ≤ b ∧ b ≤ 18446744073709551615) → (-18446744073709551615 ≤ c ∧ c ≤ 18446744073709551615) → (-18446744073709551615 ≤ d ∧ d ≤ 18446744073709551615) → (a * d - b * c).natAbs ≤ 2 ^ 129 := fun ha hb hc hd => by
    have h1 := prod_bd ha hd
    have h2 := prod_bd hb hc
    omega
  have m : ∀ {x y : Int}, x.natAbs ≤ 2 ^ 129 → y.natAbs ≤ 2 ^ 129 → (x * y).natAbs ≤ 2 ^ 258 := fun hx hy => by
    rw [Int.natAbs_mul]
    have := Nat.mul_le_mul hx hy
    omega
  have a1 := m (sq hp hq) (cr hr hs ht hu)
  have a2 := m (sq hr hs) (cr hp hq ht hu)
  have a3 := m (sq ht hu) (cr hp hq hr hs)
  unfold lv
  omega
theorem lc_fit {xa ya xb yb xc yc xd yd : Int} (h1 : S xa) (h2 : S ya) (h3 : S xb) (h4 : S yb) (h5 : S xc) (h6 : S yc) (h7 : S xd) (h8 : S yd) : Fit 5 (lc xa ya xb yb xc yc xd yd) := by
  have := lv_bd (diff_bd h1 h7) (diff_bd h2 h8) (diff_bd h3 h7) (diff_bd h4 h8) (diff_bd h5 h7) (diff_bd h6 h8)
  rw [← lc_vec] at this
  have e : M 5 = 2135987035920910082395021706169552114602704522356652769947041607822219725780640550022962086936576 := rfl
  unfold Fit
  omega
theorem lc_move (xa ya xb yb xc yc xd yd p q : Int) : lc (xa + p) (ya + q) (xb + p) (yb + q) (xc + p) (yc + q) (xd + p) (yd + q) = lc xa ya xb yb xc yc xd yd := by
  rw [lc_vec, lc_vec]
  congr 1 <;> omega
theorem lc_sw02 (xa ya xb yb xc yc xd yd : Int) : lc xc yc xb yb xa ya xd yd = -lc xa ya xb yb xc yc xd yd := by
  rw [lc_swap xb yb xc yc xa ya, lc_swap2 xb yb xa ya xc yc, lc_swap xa ya xb yb xc yc]; omega
theorem lc_sw13 (xa ya xb yb xc yc xd yd : Int) : lc xa ya xd yd xc yc xb yb = -lc xa ya xb yb xc yc xd yd := by
  rw [lc_swap2 xa ya xc yc xd yd, lc_swap3 xa ya xc yc xb yb, lc_swap2 xa ya xb yb xc yc]; omega
theorem lc_sw03 (xa ya xb yb xc yc xd yd : Int) : lc xd yd xb yb xc yc xa ya = -lc xa ya xb yb xc yc xd yd := by
  rw [lc_swap xb yb xd yd xc yc, lc_sw13 xb yb xa ya xc yc xd yd, lc_swap xa ya xb yb xc yc]; omega
/-- Exchanging two of the first three points does not change the side. -/
theorem side_swap (xa ya xb yb xc yc xd yd : Int) : lc xb yb xa ya xc yc xd yd * det xb yb xa ya xc yc = lc xa ya xb yb xc yc xd yd * det xa ya xb yb xc yc := by
  rw [lc_swap, det_swap, Int.neg_mul_neg]
theorem side_rot (xa ya xb yb xc yc xd yd : Int) : lc xc yc xa ya xb yb xd yd * det xc yc xa ya xb yb = lc xa ya xb yb xc yc xd yd * det xa ya xb yb xc yc := by
  rw [det_rot, lc_swap xa ya xc yc xb yb, lc_swap2 xa ya xb yb xc yc, Int.neg_neg]
/-- Two equal points. -/
theorem lc_same1 (xa ya xb yb xc yc : Int) : lc xa ya xb yb xc yc xa ya = 0 := by rw [lc_vec]; unfold lv; grind
theorem lc_same2 (xa ya xb yb xc yc : Int) : lc xa ya xb yb xc yc xb yb = 0 := by rw [lc_vec]; unfold lv; grind
theorem lc_same3 (xa ya xb yb xc yc : Int) : lc xa ya xb yb xc yc xc yc = 0 := by rw [lc_vec]; unfold lv; grind
/-- A rectangle. -/
theorem corner_on (x y w h : Int) : lc x y (x + w) y (x + w) (y + h) x (y + h) * det x y (x + w) y (x + w) (y + h) = 0 := by
  have : lc x y (x + w) y (x + w) (y + h) x (y + h) = 0 := by rw [lc_vec]; unfold lv; grind
  rw [this, Int.zero_mul]
theorem corner_det (x y w h : Int) : det x y (x + w) y (x + w) (y + h) = w * h := by unfold det; grind
theorem corner_lc (x y w h m n : Int) : lc x y (x + w) y (x + w) (y + h) (x + m) (y + n) = w * h * (m * (w - m) + n * (h - n)) := by rw [lc_vec]; unfold lv; grind
theorem corner_out {x y w h : Int} (hw : 1 ≤ w) (hh : 1 ≤ h) : (lc x y (x + w) y (x + w) (y + h) (x + w + 1) (y + h) * det x y (x + w) y (x + w) (y + h)).sign = -1 := by
  have e := corner_lc x y w h (w + 1) h
  rw [show x + (w + 1) = x + w + 1 by omega] at e
  rw [e, corner_det]
  have e2 : w * h * ((w + 1) * (w - (w + 1)) + h * (h - h)) * (w * h) = -((w * h) * (w * h) * (w + 1)) := by grind
  rw [e2, Int.sign_neg]
  have p1 : 0 < w * h := Int.mul_pos (by omega) (by omega)
  rw [Int.sign_eq_one_of_pos (Int.mul_pos (Int.mul_pos p1 p1) (by omega))]
theorem corner_in {x y w h m n : Int} (hm : 1 ≤ m) (hm2 : m < w) (hn : 1 ≤ n) (hn2 : n < h) : (lc x y (x + w) y (x + w) (y + h) (x + m) (y + n) * det x y (x + w) y (x + w) (y + h)).sign = 1 := by
  rw [corner_lc, corner_det]
  have p1 : 0 < w * h := Int.mul_pos (by omega) (by omega)
  have p2 : 0 < m * (w - m) := Int.mul_pos (by omega) (by omega)
  have p3 : 0 < n * (h - n) := Int.mul_pos (by omega) (by omega)
  exact Int.sign_eq_one_of_pos (Int.mul_pos (Int.mul_pos p1 (by omega)) p1)
end Go.Proofs.YtehnpmkolabiaaaDoor
