/-
  Integers in floating point: sums, differences and products of whole numbers up to 2^53 in absolute value are exact.
-/
import Derived.Laws.ComplexArith
import Derived.RowKit
namespace Go.Proofs.Ythdboeegngcfeaa
open Go.RowKit
set_option maxRecDepth 100000
set_option linter.unusedVariables false
set_option linter.unusedSimpArgs false

/-- The datum is the integer n (a zero of either sign is 0). -/
def Val (d : Ieee.Datum) (n : Int) : Prop := ∃ (s : Bool) (m : Nat) (i : Int), d = .number s m i ∧ n * 2 ^ (-i).toNat = (if s then -(m : Int) else m) * 2 ^ i.toNat
/-- The word is the integer n. -/
def FI (x : Nat) (n : Int) : Prop := Val (Ieee.double.read x) n

theorem pw (n : Nat) : (0 : Int) < 2 ^ n := Int.pow_pos (by decide)
theorem shl_int (m k : Nat) : ((m <<< k : Nat) : Int) = (m : Int) * 2 ^ k := by rw [Nat.shiftLeft_eq]; push_cast; rfl
theorem signed_eq (s : Bool) (m k : Nat) : Ieee.signed s m k = (if s then -(m : Int) else m) * 2 ^ k := by
  unfold Ieee.signed
  cases s
  · simp only [Bool.false_eq_true, if_false]; exact shl_int m k
  · simp only [if_true]; rw [shl_int, Int.neg_mul]
/-- Over a common base. -/
theorem val_base {s : Bool} {m : Nat} {i n base : Int} (h : n * 2 ^ (-i).toNat = (if s then -(m : Int) else m) * 2 ^ i.toNat) (hb : base ≤ i) :
    Ieee.signed s m (i - base).toNat * 2 ^ base.toNat = n * 2 ^ (-base).toNat := by
  rw [signed_eq]
  generalize (if s then -(m : Int) else (m : Int)) = z at *
  by_cases h0 : 0 ≤ base
  · have e1 : (-base).toNat = 0 := by omega
    have e2 : (-i).toNat = 0 := by omega
    rw [e2] at h
    rw [e1, Int.mul_assoc, ← Int.pow_add, show (i - base).toNat + base.toNat = i.toNat by omega, ← h]
  · have e1 : base.toNat = 0 := by omega
    rw [e1, Int.pow_zero, Int.mul_one]
    by_cases h1 : 0 ≤ i
    · have e2 : (-i).toNat = 0 := by omega
      rw [e2, Int.pow_zero, Int.mul_one] at h
      rw [h, Int.mul_assoc, ← Int.pow_add, show i.toNat + (-base).toNat = (i - base).toNat by omega]
    · have e2 : i.toNat = 0 := by omega
      rw [e2, Int.pow_zero, Int.mul_one] at h
      rw [← h, Int.mul_assoc, ← Int.pow_add, show (-i).toNat + (i - base).toNat = (-base).toNat by omega]
theorem natAbs_sign (t : Int) : (if decide (t < 0) then -(t.natAbs : Int) else t.natAbs) = t := by
  by_cases h : t < 0
  · rw [decide_eq_true h]; simp only [if_true]; omega
  · rw [decide_eq_false h]; simp only [Bool.false_eq_true, if_false]; omega
theorem val_sum {d e : Ieee.Datum} {a b : Int} (ha : Val d a) (hb : Val e b) : ∃ r, d.sum e = some r ∧ Val r (a + b) := by
  obtain ⟨s, m, i, rfl, h1⟩ := ha
  obtain ⟨t, n, j, rfl, h2⟩ := hb
  refine ⟨_, rfl, _, _, _, rfl, ?_⟩
  have k1 := val_base h1 (base := min i j) (by omega)
  have k2 := val_base h2 (base := min i j) (by omega)
  generalize Ieee.signed s m (i - min i j).toNat = p at *
  generalize Ieee.signed t n (j - min i j).toNat = q at *
  by_cases hz : p + q = 0
  · have e0 : (p + q) * 2 ^ (min i j).toNat = (a + b) * 2 ^ (-min i j).toNat := by rw [Int.add_mul, Int.add_mul, k1, k2]
    rw [hz, Int.zero_mul] at e0
    rw [hz]
    simp only [Int.natAbs_zero, ← e0]
    simp
  · rw [if_neg hz, show (if decide (p + q < 0) = true then -((p + q).natAbs : Int) else ((p + q).natAbs : Int)) = p + q from natAbs_sign _, Int.add_mul, Int.add_mul, k1, k2]
theorem val_opp {d : Ieee.Datum} {a : Int} (h : Val d a) : Val d.opposite (-a) := by
  obtain ⟨s, m, i, rfl, h1⟩ := h
  refine ⟨_, _, _, rfl, ?_⟩
  rw [Int.neg_mul, h1, ← Int.neg_mul]
  cases s <;> simp
theorem val_product {d e : Ieee.Datum} {a b : Int} (ha : Val d a) (hb : Val e b) : ∃ r, d.product e = some r ∧ Val r (a * b) := by
  obtain ⟨s, m, i, rfl, h1⟩ := ha
  obtain ⟨t, n, j, rfl, h2⟩ := hb
  refine ⟨_, rfl, _, _, _, rfl, ?_⟩
  have hz : (if (s ^^ t) then -((m * n : Nat) : Int) else ((m * n : Nat) : Int)) = (if s then -(m : Int) else m) * (if t then -(n : Int) else n) := by
    cases s <;> cases t <;> simp [Int.neg_mul, Int.mul_neg]
  rw [hz]
  generalize (if s then -(m : Int) else (m : Int)) = z at *
  generalize (if t then -(n : Int) else (n : Int)) = y at *
  have h3 : (a * b) * 2 ^ ((-i).toNat + (-j).toNat) = (z * y) * 2 ^ (i.toNat + j.toNat) := by
    rw [Int.pow_add, Int.pow_add]
    calc a * b * (2 ^ (-i).toNat * 2 ^ (-j).toNat) = (a * 2 ^ (-i).toNat) * (b * 2 ^ (-j).toNat) := by grind
      _ = (z * 2 ^ i.toNat) * (y * 2 ^ j.toNat) := by rw [h1, h2]
      _ = _ := by grind
  obtain ⟨k, hk1, hk2⟩ : ∃ k, (-i).toNat + (-j).toNat = (-(i + j)).toNat + k ∧ i.toNat + j.toNat = (i + j).toNat + k := ⟨(-i).toNat + (-j).toNat - (-(i + j)).toNat, by omega, by omega⟩
  rw [hk1, hk2, Int.pow_add, Int.pow_add, ← Int.mul_assoc, ← Int.mul_assoc] at h3
  exact Int.eq_of_mul_eq_mul_right (Int.ne_of_gt (pw k)) h3

/-- What is read where a rung of a normal number stands. -/
theorem read_word (s : Bool) (k u : Nat) (hu : u < 4503599627370496) (hk : k < 2046) :
    Ieee.double.read (Ieee.double.word s (4503599627370496 * (k + 1) + u)) = .number s (4503599627370496 + u) (-1074 + k) := by
  have hsw : Ieee.double.signWeight = 9223372036854775808 := by decide +kernel
  have hbin : Ieee.double.binade = 4503599627370496 := by decide +kernel
  have hinf : Ieee.double.infRung = 9218868437227405312 := by decide +kernel
  have hlp : Ieee.double.leastPlace = -1074 := by decide +kernel
  unfold Ieee.Format.read Ieee.Format.word
  rw [hsw, hbin, hinf, hlp]
  generalize hr : 4503599627370496 * (k + 1) + u = r
  have hr1 : r < 9223372036854775808 := by omega
  have e1 : (if s then 9223372036854775808 + r else r) % 9223372036854775808 = r := by cases s <;> simp only [Bool.false_eq_true, if_false, if_true] <;> omega
  have e2 : ((if s then 9223372036854775808 + r else r) / 9223372036854775808 % 2 == 1) = s := by
    cases s
    · simp only [Bool.false_eq_true, if_false]; rw [show r / 9223372036854775808 = 0 by omega]; rfl
    · simp only [if_true]; rw [show (9223372036854775808 + r) / 9223372036854775808 = 1 by omega]; rfl
  dsimp only
  rw [e1, e2, if_neg (by omega), if_pos (by omega), show r % 4503599627370496 = u by omega, show r / 4503599627370496 - 1 = k by omega]
theorem rung_eq {k q : Nat} (hk : k < 2046) (h1 : 4503599627370496 ≤ q) (h2 : q < 9007199254740992) : min (k * 4503599627370496 + q) 9218868437227405312 = 4503599627370496 * (k + 1) + (q - 4503599627370496) := by omega
/-- The rounding is exact. -/
theorem read_write {d : Ieee.Datum} {n : Int} (h : Val d n) (h1 : -9007199254740992 ≤ n) (h2 : n ≤ 9007199254740992) : FI (Ieee.double.write d) n := by
  obtain ⟨s, m, i, rfl, h⟩ := h
  unfold FI Ieee.Format.write Ieee.Format.nearest
  dsimp only
  by_cases hm : m = 0
  · subst hm
    rw [if_pos rfl]
    have hn : n = 0 := by
      have e : n * 2 ^ (-i).toNat = 0 := by rw [h]; cases s <;> simp
      rcases Int.mul_eq_zero.1 e with h3 | h3
      · exact h3
      · exact absurd h3 (Int.ne_of_gt (pw _))
    subst hn
    exact ⟨s, 0, -1074, by cases s <;> decide +kernel, by rw [Int.zero_mul]; cases s <;> rfl⟩
  · rw [if_neg hm]
    have hsgn : (n.natAbs : Int) * 2 ^ (-i).toNat = m * 2 ^ i.toNat := by
      have := congrArg Int.natAbs h
      rw [Int.natAbs_mul, Int.natAbs_mul] at this
      have e1 : (if s = true then -(m : Int) else (m : Int)).natAbs = m := by cases s <;> simp
      rw [e1] at this
      have e2 : ∀ k : Nat, ((2 : Int) ^ k).natAbs = 2 ^ k := fun k => by rw [Int.natAbs_pow]; rfl
      rw [e2, e2] at this
      have := congrArg (Nat.cast : Nat → Int) this
      push_cast at this
      exact this
    have hN : n.natAbs * 2 ^ (-i).toNat = m * 2 ^ i.toNat := by exact_mod_cast hsgn
    have hn53 : n.natAbs ≤ 2 ^ 53 := by omega
    have hlo := Nat.log2_self_le hm
    have hhi := Nat.lt_log2_self (n := m)
    generalize hL : m.log2 = L at *
    have hmpos : 0 < m := Nat.pos_of_ne_zero hm
    have hnpos : 0 < n.natAbs := by
      rcases Nat.eq_zero_or_pos n.natAbs with h3 | h3
      · rw [h3, Nat.zero_mul] at hN
        have := Nat.mul_pos hmpos (Nat.two_pow_pos i.toNat)
        omega
      · exact h3
    -- 0 ≤ i + L ≤ 53
    have hge : 0 ≤ i + L := by
      rcases (by omega : (i + L) < 0 ∨ 0 ≤ (i + L)) with h3 | h3
      · exfalso
        have e0 : i.toNat = 0 := by omega
        rw [e0, Nat.pow_zero, Nat.mul_one] at hN
        have h4 : 2 ^ (L + 1) ≤ 2 ^ (-i).toNat := Nat.pow_le_pow_right (by decide) (by omega)
        have h5 : 1 * 2 ^ (-i).toNat ≤ n.natAbs * 2 ^ (-i).toNat := Nat.mul_le_mul_right _ hnpos
        omega
      · exact h3
    have hle : i + L ≤ 53 := by
      rcases (by omega : 53 < (i + L) ∨ (i + L) ≤ 53) with h3 | h3
      · exfalso
        have h5 : n.natAbs * 2 ^ (-i).toNat ≤ 2 ^ 53 * 2 ^ (-i).toNat := Nat.mul_le_mul_right _ hn53
        have h6 : 2 ^ L * 2 ^ i.toNat ≤ m * 2 ^ i.toNat := Nat.mul_le_mul_right _ hlo
        rw [← Nat.pow_add] at h5 h6
        have h7 : 2 ^ (53 + (-i).toNat + 1) ≤ 2 ^ (L + i.toNat) := Nat.pow_le_pow_right (by decide) (by omega)
        have h8 : 2 ^ (53 + (-i).toNat) < 2 ^ (53 + (-i).toNat + 1) := Nat.pow_lt_pow_right (by decide) (by omega)
        omega
      · exact h3
    have hfb : (Ieee.double.fractionBits : Int) = 52 := by decide +kernel
    have hlp : Ieee.double.leastPlace = -1074 := by decide +kernel
    have hbin : Ieee.double.binade = 4503599627370496 := by decide +kernel
    have hinf : Ieee.double.infRung = 9218868437227405312 := by decide +kernel
    rw [hfb, hlp, hbin, hinf]
    have hlast : max (i + (L : Int) - 52) (-1074) = i + L - 52 := by omega
    rw [hlast]
    -- what is kept
    obtain ⟨q, hq, hq1, hq2, hqe⟩ : ∃ q : Nat, Ieee.Toward.even.cut s (m <<< (i - (i + (L : Int) - 52)).toNat) (i + (L : Int) - 52 - i).toNat = q ∧ 4503599627370496 ≤ q ∧ q < 9007199254740992 ∧ q * 2 ^ (L - 52) = m * 2 ^ (52 - L) := by
      by_cases h52 : L ≤ 52
      · refine ⟨m * 2 ^ (52 - L), ?_, ?_, ?_, ?_⟩
        · rw [show (i - (i + (L : Int) - 52)).toNat = 52 - L by omega, show (i + (L : Int) - 52 - i).toNat = 0 by omega, Nat.shiftLeft_eq]
          unfold Ieee.Toward.cut
          simp [Nat.mod_one]
        · have : 2 ^ L * 2 ^ (52 - L) ≤ m * 2 ^ (52 - L) := Nat.mul_le_mul_right _ hlo
          rw [← Nat.pow_add, show L + (52 - L) = 52 by omega] at this
          exact this
        · have : m * 2 ^ (52 - L) < 2 ^ (L + 1) * 2 ^ (52 - L) := Nat.mul_lt_mul_of_pos_right hhi (Nat.two_pow_pos _)
          rw [← Nat.pow_add, show L + 1 + (52 - L) = 53 by omega] at this
          exact this
        · rw [show L - 52 = 0 by omega, Nat.pow_zero, Nat.mul_one]
      · obtain ⟨q, hq⟩ : ∃ q, m = q * 2 ^ (L - 52) := by
          by_cases hlt : i + L ≤ 52
          · -- n < 2^53: 2^(-i) divides m
            have e0 : i.toNat = 0 := by omega
            rw [e0, Nat.pow_zero, Nat.mul_one] at hN
            refine ⟨n.natAbs * 2 ^ ((-i).toNat - (L - 52)), ?_⟩
            rw [Nat.mul_assoc, ← Nat.pow_add, show (-i).toNat - (L - 52) + (L - 52) = (-i).toNat by omega, hN]
          · -- n = 2^53
            have h5 : n.natAbs * 2 ^ (-i).toNat ≤ 2 ^ 53 * 2 ^ (-i).toNat := Nat.mul_le_mul_right _ hn53
            have h6 : 2 ^ L * 2 ^ i.toNat ≤ m * 2 ^ i.toNat := Nat.mul_le_mul_right _ hlo
            rw [← Nat.pow_add] at h5 h6
            rw [show L + i.toNat = 53 + (-i).toNat by omega] at h6
            have e2 : m * 2 ^ i.toNat = 2 ^ L * 2 ^ i.toNat := by
              rw [← Nat.pow_add, show L + i.toNat = 53 + (-i).toNat by omega]; omega
            have e3 := Nat.eq_of_mul_eq_mul_right (Nat.two_pow_pos _) e2
            exact ⟨2 ^ 52, by rw [e3, ← Nat.pow_add, show 52 + (L - 52) = L by omega]⟩
        have hp : 0 < 2 ^ (L - 52) := Nat.two_pow_pos _
        refine ⟨q, ?_, ?_, ?_, ?_⟩
        · rw [show (i - (i + (L : Int) - 52)).toNat = 0 by omega, show (i + (L : Int) - 52 - i).toNat = L - 52 by omega, Nat.shiftLeft_zero]
          unfold Ieee.Toward.cut
          rw [hL, show min (L - 52) (L + 2) = L - 52 by omega, Nat.shiftLeft_eq, Nat.one_mul]
          have e1 : m / 2 ^ (L - 52) = q := by rw [hq, Nat.mul_div_cancel _ hp]
          have e2 : m % 2 ^ (L - 52) = 0 := by rw [hq, Nat.mul_mod_left]
          dsimp only
          rw [e1, e2]
          simp
        · have : 2 ^ 52 * 2 ^ (L - 52) ≤ q * 2 ^ (L - 52) := by rw [← Nat.pow_add, ← hq, show 52 + (L - 52) = L by omega]; exact hlo
          exact Nat.le_of_mul_le_mul_right this hp
        · have : q * 2 ^ (L - 52) < 2 ^ 53 * 2 ^ (L - 52) := by rw [← Nat.pow_add, ← hq, show 53 + (L - 52) = L + 1 by omega]; exact hhi
          exact Nat.lt_of_mul_lt_mul_right this
        · rw [← hq, show 52 - L = 0 by omega, Nat.pow_zero, Nat.mul_one]
    rw [hq]
    have hk : (i + (L : Int) - 52 - -1074).toNat < 2046 := by omega
    rw [rung_eq hk hq1 hq2]
    rw [read_word s _ _ (by omega) hk]
    refine ⟨_, _, _, rfl, ?_⟩
    rw [show 4503599627370496 + (q - 4503599627370496) = q by omega, show (-1074 : Int) + ((i + (L : Int) - 52 - -1074).toNat : Nat) = i + L - 52 by omega]
    -- n * 2^(-last) = ± q * 2^last
    have hqI : (q : Int) * 2 ^ (L - 52) = m * 2 ^ (52 - L) := by exact_mod_cast hqe
    have hq' : (if s then -(q : Int) else (q : Int)) * 2 ^ (L - 52) = (if s then -(m : Int) else (m : Int)) * 2 ^ (52 - L) := by
      cases s
      · simpa using hqI
      · simp only [if_true]; rw [Int.neg_mul, Int.neg_mul, hqI]
    generalize (if s then -(q : Int) else (q : Int)) = y at *
    generalize (if s then -(m : Int) else (m : Int)) = z at *
    have h9 : (n * 2 ^ (-(i + (L : Int) - 52)).toNat) * (2 ^ (L - 52) * 2 ^ ((-i).toNat + i.toNat)) = (y * 2 ^ (i + (L : Int) - 52).toNat) * (2 ^ (L - 52) * 2 ^ ((-i).toNat + i.toNat)) := by
      calc n * 2 ^ (-(i + (L : Int) - 52)).toNat * (2 ^ (L - 52) * 2 ^ ((-i).toNat + i.toNat)) = (n * 2 ^ (-i).toNat) * (2 ^ (-(i + (L : Int) - 52)).toNat * 2 ^ (L - 52) * 2 ^ i.toNat) := by rw [Int.pow_add]; grind
        _ = (z * 2 ^ i.toNat) * (2 ^ ((-(i + (L : Int) - 52)).toNat + (L - 52) + i.toNat)) := by rw [h, Int.pow_add, Int.pow_add]
        _ = z * 2 ^ ((-(i + (L : Int) - 52)).toNat + (L - 52) + i.toNat + i.toNat) := by rw [Int.mul_assoc, ← Int.pow_add, Nat.add_comm i.toNat]
        _ = z * 2 ^ ((52 - L) + ((i + (L : Int) - 52).toNat + ((-i).toNat + i.toNat))) := by congr 2; omega
        _ = (z * 2 ^ (52 - L)) * 2 ^ ((i + (L : Int) - 52).toNat + ((-i).toNat + i.toNat)) := by rw [Int.pow_add, Int.mul_assoc]
        _ = (y * 2 ^ (L - 52)) * 2 ^ ((i + (L : Int) - 52).toNat + ((-i).toNat + i.toNat)) := by rw [hq']
        _ = _ := by rw [Int.pow_add 2 (i + (L : Int) - 52).toNat]; grind
    exact Int.eq_of_mul_eq_mul_right (Int.ne_of_gt (Int.mul_pos (pw _) (pw _))) h9

theorem fi_add {x y : Nat} {a b : Int} (hx : FI x a) (hy : FI y b) (h1 : -9007199254740992 ≤ a + b) (h2 : a + b ≤ 9007199254740992) : ∃ r, floatBits .add .f64 x y = some r ∧ FI r (a + b) := by
  obtain ⟨d, hd, hv⟩ := val_sum hx hy
  exact ⟨_, by show ((Ieee.double.read x).sum (Ieee.double.read y)).map _ = _; rw [hd]; rfl, read_write hv h1 h2⟩
theorem fi_sub {x y : Nat} {a b : Int} (hx : FI x a) (hy : FI y b) (h1 : -9007199254740992 ≤ a - b) (h2 : a - b ≤ 9007199254740992) : ∃ r, floatBits .sub .f64 x y = some r ∧ FI r (a - b) := by
  obtain ⟨d, hd, hv⟩ := val_sum hx (val_opp hy)
  rw [← Int.sub_eq_add_neg] at hv
  exact ⟨_, by show ((Ieee.double.read x).sum (Ieee.double.read y).opposite).map _ = _; rw [hd]; rfl, read_write hv h1 h2⟩
theorem fi_mul {x y : Nat} {a b : Int} (hx : FI x a) (hy : FI y b) (h1 : -9007199254740992 ≤ a * b) (h2 : a * b ≤ 9007199254740992) : ∃ r, floatBits .mul .f64 x y = some r ∧ FI r (a * b) := by
  obtain ⟨d, hd, hv⟩ := val_product hx hy
  exact ⟨_, by show ((Ieee.double.read x).product (Ieee.double.read y)).map _ = _; rw [hd]; rfl, read_write hv h1 h2⟩
theorem val_int (n : Int) : Val (.number (decide (n < 0)) n.natAbs 0) n := ⟨_, _, _, rfl, by rw [natAbs_sign]; simp⟩
theorem fi_int {n : Int} (h1 : -9007199254740992 ≤ n) (h2 : n ≤ 9007199254740992) : FI (floatOfInt .f64 n) n := read_write (val_int n) h1 h2
theorem fi_order {x y : Nat} {a b : Int} (hx : FI x a) (hy : FI y b) : Ieee.double.order x y = some (compare a b) := by
  obtain ⟨s, m, i, e1, h1⟩ := hx
  obtain ⟨t, n, j, e2, h2⟩ := hy
  unfold Ieee.Format.order
  rw [e1, e2]
  show some (compare _ _) = _
  have k1 := val_base h1 (base := min i j) (by omega)
  have k2 := val_base h2 (base := min i j) (by omega)
  generalize Ieee.signed s m (i - min i j).toNat = p at *
  generalize Ieee.signed t n (j - min i j).toNat = q at *
  have hu := pw (min i j).toNat
  have hv := pw (-min i j).toNat
  generalize (2 : Int) ^ (min i j).toNat = u at *
  generalize (2 : Int) ^ (-min i j).toNat = v at *
  congr 1
  rcases Int.lt_trichotomy a b with h | h | h
  · have : p * u < q * u := by rw [k1, k2]; exact Int.mul_lt_mul_of_pos_right h hv
    have h3 : p < q := Int.lt_of_mul_lt_mul_right this (Int.le_of_lt hu)
    rw [Int.compare_eq_lt.2 h, Int.compare_eq_lt.2 h3]
  · subst h
    have h3 : p = q := Int.eq_of_mul_eq_mul_right (Int.ne_of_gt hu) (k1.trans k2.symm)
    rw [h3, Int.compare_eq_eq.2 rfl, Int.compare_eq_eq.2 rfl]
  · have : q * u < p * u := by rw [k1, k2]; exact Int.mul_lt_mul_of_pos_right h hv
    have h3 : q < p := Int.lt_of_mul_lt_mul_right this (Int.le_of_lt hu)
    rw [Int.compare_eq_gt.2 h, Int.compare_eq_gt.2 h3]
/-- The whole number of a word that is one. -/
theorem fi_toInt {x : Nat} {n : Int} (h : FI x n) : (FloatKind.f64.decode x).toInt .zero = some n := by
  obtain ⟨s, m, i, e, h1⟩ := h
  show (Ieee.double.read x).toInt .zero = some n
  rw [e]
  show some (Ieee.signed s (Ieee.Toward.zero.cut s (m <<< i.toNat) (-i).toNat) 0) = some n
  congr 1
  unfold Ieee.Toward.cut
  dsimp only
  rw [Bool.toNat_false, Nat.add_zero, signed_eq, Int.pow_zero, Int.mul_one]
  by_cases hi : 0 ≤ i
  · have e0 : (-i).toNat = 0 := by omega
    rw [e0] at h1 ⊢
    rw [Nat.zero_min, Nat.shiftLeft_zero, Nat.div_one]
    rw [Int.pow_zero, Int.mul_one] at h1
    rw [shl_int, h1]
    cases s
    · rfl
    · simp only [if_true]; rw [Int.neg_mul]
  · have e0 : i.toNat = 0 := by omega
    rw [e0] at h1 ⊢
    rw [Int.pow_zero, Int.mul_one] at h1
    rw [Nat.shiftLeft_zero, Nat.shiftLeft_eq, Nat.one_mul]
    have hm : m = n.natAbs * 2 ^ (-i).toNat := by
      have h2 := congrArg Int.natAbs h1
      rw [Int.natAbs_mul, Int.natAbs_pow] at h2
      have e1 : (if s = true then -(m : Int) else (m : Int)).natAbs = m := by cases s <;> simp
      rw [e1] at h2
      exact h2.symm
    have hq : m / 2 ^ min (-i).toNat (m.log2 + 2) = n.natAbs := by
      by_cases h0 : n.natAbs = 0
      · rw [h0, Nat.zero_mul] at hm
        rw [hm, h0, Nat.zero_div]
      · have hm0 : m ≠ 0 := by
          intro e
          rw [e] at hm
          have := Nat.mul_pos (Nat.pos_of_ne_zero h0) (Nat.two_pow_pos (-i).toNat)
          omega
        have hlog : (-i).toNat ≤ m.log2 := by
          rw [Nat.le_log2 hm0, hm]
          have := Nat.mul_le_mul_right (2 ^ (-i).toNat) (Nat.pos_of_ne_zero h0)
          omega
        rw [Nat.min_eq_left (by omega), hm, Nat.mul_div_cancel _ (Nat.two_pow_pos _)]
    rw [hq]
    have hs : (s = true → n ≤ 0) ∧ (s = false → 0 ≤ n) := by
      have hp := pw (-i).toNat
      refine ⟨fun e => ?_, fun e => ?_⟩
      · subst e
        simp only [if_true] at h1
        rcases (by omega : 0 < n ∨ n ≤ 0) with h2 | h2
        · have := Int.mul_pos h2 hp; omega
        · exact h2
      · subst e
        simp only [Bool.false_eq_true, if_false] at h1
        rcases (by omega : n < 0 ∨ 0 ≤ n) with h2 | h2
        · have := Int.mul_neg_of_neg_of_pos h2 hp; omega
        · exact h2
    cases s
    · have := hs.2 rfl
      simp only [Bool.false_eq_true, if_false]; omega
    · have := hs.1 rfl
      simp only [if_true]; omega
end Go.Proofs.Ythdboeegngcfeaa
