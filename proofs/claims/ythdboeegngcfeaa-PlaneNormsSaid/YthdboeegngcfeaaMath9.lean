/-
  Layer 9: numbers that are whole, quarter turns.
-/
import Derived.Test.YthdboeegngcfeaaRef09
namespace Go.Proofs.Ythdboeegngcfeaa
open Go.RowKit
set_option maxRecDepth 100000
set_option linter.unusedVariables false
set_option linter.unusedSimpArgs false

/-- A word that is no NaN equals itself. -/
theorem ord_word (s : Bool) (r : Nat) (h : r ≤ 9218868437227405312) : Ieee.double.order (Ieee.double.word s r) (Ieee.double.word s r) = some .eq := by
  have hsw : Ieee.double.signWeight = 9223372036854775808 := by decide +kernel
  have hbin : Ieee.double.binade = 4503599627370496 := by decide +kernel
  have hinf : Ieee.double.infRung = 9218868437227405312 := by decide +kernel
  unfold Ieee.Format.order Ieee.Format.read Ieee.Format.word
  rw [hsw, hbin, hinf]
  have e1 : (if s = true then 9223372036854775808 + r else r) % 9223372036854775808 = r := by cases s <;> simp only [Bool.false_eq_true, if_false, if_true] <;> omega
  dsimp only
  rw [e1]
  by_cases h1 : r < 4503599627370496
  · rw [if_pos h1]
    show some (compare _ _) = _
    rw [Int.compare_eq_eq.2 rfl]
  · rw [if_neg h1]
    by_cases h2 : r < 9218868437227405312
    · rw [if_pos h2]
      show some (compare _ _) = _
      rw [Int.compare_eq_eq.2 rfl]
    · rw [if_neg h2, if_pos (by omega)]
      show some (compare _ _) = _
      rw [Nat.compare_eq_eq.2 rfl]
theorem ord_self (n : Int) : FloatKind.f64.format.order (floatOfInt .f64 n) (floatOfInt .f64 n) = some .eq := by
  show Ieee.double.order (Ieee.double.nearest _ _ _) (Ieee.double.nearest _ _ _) = _
  have hinf : Ieee.double.infRung = 9218868437227405312 := by decide +kernel
  unfold Ieee.Format.nearest
  split
  · exact ord_word _ 0 (by decide)
  · dsimp only
    rw [hinf]
    exact ord_word _ _ (Nat.min_le_right _ _)
/-- A number against a whole number. -/
theorem cmp_val {s t : Bool} {m n : Nat} {i j N : Int} (h : N * 2 ^ (-j).toNat = (if t then -(n : Int) else n) * 2 ^ j.toNat) :
    compare (Ieee.signed s m (i - min i j).toNat) (Ieee.signed t n (j - min i j).toNat) = compare ((if s then -(m : Int) else m) * 2 ^ i.toNat) (N * 2 ^ (-i).toNat) := by
  have k2 := val_base h (base := min i j) (by omega)
  have k1 : Ieee.signed s m (i - min i j).toNat * 2 ^ (min i j).toNat * 2 ^ (-i).toNat = (if s then -(m : Int) else m) * 2 ^ i.toNat * 2 ^ (-min i j).toNat := by
    rw [signed_eq, Int.mul_assoc, Int.mul_assoc, Int.mul_assoc, ← Int.pow_add, ← Int.pow_add, ← Int.pow_add]
    congr 2
    omega
  have h1 := pw (min i j).toNat
  have h2 := pw (-i).toNat
  have h3 := pw (-min i j).toNat
  generalize Ieee.signed s m (i - min i j).toNat = A at *
  generalize Ieee.signed t n (j - min i j).toNat = B at *
  generalize (if s = true then -(m : Int) else (m : Int)) * 2 ^ i.toNat = u at *
  generalize (2 : Int) ^ (min i j).toNat = a at *
  generalize (2 : Int) ^ (-min i j).toNat = b at *
  generalize (2 : Int) ^ (-i).toNat = v at *
  have key : ∀ {x y p : Int}, 0 < p → (x < y ↔ x * p < y * p) := fun hp => ⟨fun h => Int.mul_lt_mul_of_pos_right h hp, fun h => Int.lt_of_mul_lt_mul_right h (Int.le_of_lt hp)⟩
  have e : B * a * v = N * v * b := by rw [k2]; grind
  have l1 : A < B ↔ u < N * v := by
    rw [key (x := A) (y := B) (Int.mul_pos h1 h2), ← Int.mul_assoc, ← Int.mul_assoc, k1, e, ← key h3]
  have l2 : B < A ↔ N * v < u := by
    rw [key (x := B) (y := A) (Int.mul_pos h1 h2), ← Int.mul_assoc, ← Int.mul_assoc, k1, e, ← key h3]
  rcases Int.lt_trichotomy A B with h | h | h
  · rw [Int.compare_eq_lt.2 h, Int.compare_eq_lt.2 (l1.1 h)]
  · have : u = N * v := by
      rcases Int.lt_trichotomy u (N * v) with h4 | h4 | h4
      · have := l1.2 h4; omega
      · exact h4
      · have := l2.2 h4; omega
    rw [Int.compare_eq_eq.2 h, Int.compare_eq_eq.2 this]
  · rw [Int.compare_eq_gt.2 h, Int.compare_eq_gt.2 (l2.1 h)]
/-- The word is a whole number of at most 2^53. -/
def WholeW (x : Nat) : Prop := ∃ n, FI x n ∧ Bd 9007199254740992 n
theorem fi_lo : FI 14069245235905429504 (-9007199254740992) := fi_val (s := true) (m := 4503599627370496) (i := 1) (by decide +kernel) (by decide)
theorem fi_hi : FI 4845873199050653696 9007199254740992 := fi_val (s := false) (m := 4503599627370496) (i := 1) (by decide +kernel) (by decide)
/-- The size of a number that is read: u / v. -/
theorem num_ord {x c : Nat} {s : Bool} {m : Nat} {i N : Int} (hx : Ieee.double.read x = .number s m i) (hc : FI c N) :
    FloatKind.f64.format.order x c = some (compare ((if s then -(m : Int) else m) * 2 ^ i.toNat) (N * 2 ^ (-i).toNat)) := by
  obtain ⟨t, n, j, e, h⟩ := hc
  show (Ieee.double.read x).order (Ieee.double.read c) = _
  rw [hx, e]
  exact congrArg some (cmp_val h)
theorem num_ord2 {x c : Nat} {s : Bool} {m : Nat} {i N : Int} (hx : Ieee.double.read x = .number s m i) (hc : FI c N) :
    FloatKind.f64.format.order c x = some (compare (N * 2 ^ (-i).toNat) ((if s then -(m : Int) else m) * 2 ^ i.toNat)) := by
  obtain ⟨t, n, j, e, h⟩ := hc
  show (Ieee.double.read c).order (Ieee.double.read x) = _
  rw [hx, e]
  show some (compare _ _) = _
  have h1 := cmp_val (s := s) (m := m) (i := i) h
  rw [Int.min_comm j i]
  rw [← Int.compare_swap, h1, Int.compare_swap]
/-- The whole part of a number of at most 2^53. -/
theorem num_int {x : Nat} {s : Bool} {m : Nat} {i : Int} (hx : Ieee.double.read x = .number s m i)
    (h1 : -9007199254740992 * 2 ^ (-i).toNat ≤ (if s then -(m : Int) else m) * 2 ^ i.toNat) (h2 : (if s then -(m : Int) else m) * 2 ^ i.toNat ≤ 9007199254740992 * 2 ^ (-i).toNat) :
    ∃ n, Bd 9007199254740992 n ∧ floatToIntVal .f64 x .i64 = some n := by
  obtain ⟨k, hk⟩ : ∃ k, Ieee.Toward.zero.cut s (m <<< i.toNat) (-i).toNat = k := ⟨_, rfl⟩
  have hk2 : k ≤ 9007199254740992 := by
    have hM : (m <<< i.toNat) ≤ 9007199254740992 * 2 ^ (-i).toNat := by
      rw [Nat.shiftLeft_eq]
      have e : ((m * 2 ^ i.toNat : Nat) : Int) ≤ ((9007199254740992 * 2 ^ (-i).toNat : Nat) : Int) := by
        rw [Int.natCast_mul, Int.natCast_pow, Int.natCast_mul, Int.natCast_pow]
        show (m : Int) * 2 ^ i.toNat ≤ 9007199254740992 * 2 ^ (-i).toNat
        cases s
        · simp only [Bool.false_eq_true, if_false] at h2; exact h2
        · simp only [if_true] at h1
          rw [Int.neg_mul, Int.neg_mul] at h1
          omega
      exact_mod_cast e
    rw [← hk]
    unfold Ieee.Toward.cut
    dsimp only
    rw [Bool.toNat_false, Nat.add_zero, Nat.shiftLeft_eq 1, Nat.one_mul]
    generalize hP : m <<< i.toNat = P at *
    by_cases hd : (-i).toNat ≤ P.log2 + 2
    · rw [Nat.min_eq_left hd]
      exact Nat.div_le_of_le_mul (by rw [Nat.mul_comm]; exact hM)
    · rw [Nat.min_eq_right (by omega)]
      have : P < 2 ^ (P.log2 + 2) := Nat.lt_of_lt_of_le (Nat.lt_log2_self (n := P)) (Nat.pow_le_pow_right (by decide) (by omega))
      rw [Nat.div_eq_of_lt this]
      omega
  have hr : (FloatKind.f64.decode x).toInt .zero = some (if s then -(k : Int) else k) := by
    show (Ieee.double.read x).toInt .zero = _
    rw [hx]
    show some (Ieee.signed s (Ieee.Toward.zero.cut s (m <<< i.toNat) (-i).toNat) 0) = _
    rw [hk, signed_eq, Int.pow_zero, Int.mul_one]
  refine ⟨if s then -(k : Int) else k, by unfold Bd; cases s <;> simp <;> omega, ?_⟩
  unfold floatToIntVal
  rw [hr]
  exact if_pos ⟨by show (-9223372036854775808 : Int) ≤ _; cases s <;> simp <;> omega, by show _ ≤ (9223372036854775807 : Int); cases s <;> simp <;> omega⟩
/-- What the tests of a word say, where it is no whole number. -/
theorem not_whole {x : Nat} (h : ¬ WholeW x) :
    (FloatKind.f64.format.order x 14069245235905429504 ≠ some .gt ∧ FloatKind.f64.format.order x 14069245235905429504 ≠ some .eq) ∨
    ((FloatKind.f64.format.order x 14069245235905429504 = some .gt ∨ FloatKind.f64.format.order x 14069245235905429504 = some .eq) ∧ FloatKind.f64.format.order x 4845873199050653696 ≠ some .lt ∧ FloatKind.f64.format.order x 4845873199050653696 ≠ some .eq) ∨
    ((FloatKind.f64.format.order x 14069245235905429504 = some .gt ∨ FloatKind.f64.format.order x 14069245235905429504 = some .eq) ∧ (FloatKind.f64.format.order x 4845873199050653696 = some .lt ∨ FloatKind.f64.format.order x 4845873199050653696 = some .eq) ∧
      ∃ n, Bd 9007199254740992 n ∧ floatToIntVal .f64 x .i64 = some n ∧ FloatKind.f64.format.order x (floatOfInt .f64 n) ≠ some .eq) := by
  rcases hx : Ieee.double.read x with ⟨s, m, i⟩ | s | ⟨s, f⟩
  · rw [num_ord hx fi_lo, num_ord hx fi_hi]
    rcases Int.lt_trichotomy ((if s then -(m : Int) else m) * 2 ^ i.toNat) (-9007199254740992 * 2 ^ (-i).toNat) with h1 | h1 | h1
    · left; rw [Int.compare_eq_lt.2 h1]; exact ⟨by decide, by decide⟩
    all_goals
      rcases Int.lt_trichotomy ((if s then -(m : Int) else m) * 2 ^ i.toNat) (9007199254740992 * 2 ^ (-i).toNat) with h2 | h2 | h2
    all_goals first
      | (right; left
         rw [Int.compare_eq_gt.2 h2]
         exact ⟨by first | (left; rw [Int.compare_eq_gt.2 h1]; done) | (right; rw [Int.compare_eq_eq.2 h1]), by decide, by decide⟩)
      | (right; right
         obtain ⟨n, hn, hf⟩ := num_int hx (by omega) (by omega)
         refine ⟨by first | (left; rw [Int.compare_eq_gt.2 h1]; done) | (right; rw [Int.compare_eq_eq.2 h1]), by first | (left; rw [Int.compare_eq_lt.2 h2]; done) | (right; rw [Int.compare_eq_eq.2 h2]), n, hn, hf, fun e => h ⟨n, ⟨s, m, i, hx, ?_⟩, hn⟩⟩
         rw [num_ord hx (fiB hn (by decide))] at e
         exact (Int.compare_eq_eq.1 (Option.some.inj e)).symm)
  · have e : ∀ c N, FI c N → FloatKind.f64.format.order x c = some (if s then .lt else .gt) := fun c N hc => by
      obtain ⟨t, n, j, e, _⟩ := hc
      show (Ieee.double.read x).order (Ieee.double.read c) = _
      rw [hx, e]
      rfl
    rw [e _ _ fi_lo, e _ _ fi_hi]
    cases s
    · right; left; exact ⟨.inl rfl, by decide, by decide⟩
    · left; exact ⟨by decide, by decide⟩
  · have e : ∀ c, FloatKind.f64.format.order x c = none := fun c => by
      show (Ieee.double.read x).order (Ieee.double.read c) = _
      rw [hx]
      rfl
    left
    rw [e]
    exact ⟨by decide, by decide⟩
/-- Turning back. -/
theorem tr_back (k x y : Int) : trX (-(k.tmod 4)) (trX k x y) (trY k x y) = x ∧ trY (-(k.tmod 4)) (trX k x y) (trY k x y) = y := by
  have e : (qt k = 0 ∧ qt (-(k.tmod 4)) = 0) ∨ (qt k = 1 ∧ qt (-(k.tmod 4)) = 3) ∨ (qt k = 2 ∧ qt (-(k.tmod 4)) = 2) ∨ (qt k = 3 ∧ qt (-(k.tmod 4)) = 1) := by
    have h1 := Int.tmod_lt_of_pos k (show (0 : Int) < 4 by decide)
    have h2 := Int.lt_tmod_of_pos k (show (0 : Int) < 4 by decide)
    unfold qt
    generalize k.tmod 4 = r at *
    have hr : r = -3 ∨ r = -2 ∨ r = -1 ∨ r = 0 ∨ r = 1 ∨ r = 2 ∨ r = 3 := by omega
    rcases hr with rfl | rfl | rfl | rfl | rfl | rfl | rfl <;> decide
  unfold trX trY
  rcases e with ⟨h1, h2⟩ | ⟨h1, h2⟩ | ⟨h1, h2⟩ | ⟨h1, h2⟩ <;> rw [h1, h2] <;> simp
theorem tr_norm (k x y : Int) : trX k x y * trX k x y + trY k x y * trY k x y = x * x + y * y := by
  unfold trX trY
  rcases qt_in k with h | h | h | h <;> rw [h] <;> simp <;> grind
theorem trX_bd {n k x y : Int} (h1 : Bd n x) (h2 : Bd n y) : Bd n (trX k x y) := by
  unfold trX
  rcases qt_in k with h | h | h | h <;> rw [h] <;> simp <;> unfold Bd at * <;> omega
theorem trY_bd {n k x y : Int} (h1 : Bd n x) (h2 : Bd n y) : Bd n (trY k x y) := by
  unfold trY
  rcases qt_in k with h | h | h | h <;> rw [h] <;> simp <;> unfold Bd at * <;> omega
theorem small_of {x y : Int} (h1 : Bd 16777216 x) (h2 : Bd 16777216 y) : smallB x y = true := by
  unfold smallB Bd at *
  simp only [Bool.and_eq_true, decide_eq_true_eq]
  omega
theorem tmod4_bd (k : Int) : Bd 4 (k.tmod 4) := by
  have h1 := Int.tmod_lt_of_pos k (show (0 : Int) < 4 by decide)
  have h2 := Int.lt_tmod_of_pos k (show (0 : Int) < 4 by decide)
  unfold Bd; omega
theorem tmod2049_bd (k : Int) : Bd 2048 (k.tmod 2049) := by
  have h1 := Int.tmod_lt_of_pos k (show (0 : Int) < 2049 by decide)
  have h2 := Int.lt_tmod_of_pos k (show (0 : Int) < 2049 by decide)
  unfold Bd; omega
end Go.Proofs.Ythdboeegngcfeaa
