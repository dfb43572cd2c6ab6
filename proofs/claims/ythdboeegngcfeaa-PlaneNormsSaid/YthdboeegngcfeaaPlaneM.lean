/-
  Layer 9 over the landed code: the opposite, the absolute value and the whole part of a float.
-/
import Derived.Test.YthdboeegngcfeaaMath9
import Derived.Laws.Externs
namespace Go.Proofs.Ythdboeegngcfeaa
open Go.RowKit
set_option maxRecDepth 100000
set_option linter.unusedVariables false
set_option linter.unusedSimpArgs false

theorem sw63 : Ieee.double.signWeight = 2 ^ 63 := by decide +kernel
/-- The opposite. -/
theorem read_neg (x : Nat) : Ieee.double.read (Op.negFloat .f64 x) = (Ieee.double.read x).opposite := by
  have e0 : Op.negFloat .f64 x = x ^^^ 2 ^ 63 := rfl
  rw [e0]
  unfold Ieee.Format.read
  rw [sw63, Nat.xor_mod_two_pow, Nat.xor_div_two_pow, Nat.mod_self, Nat.xor_zero, Nat.div_self (by decide)]
  have e1 : ((x / 2 ^ 63 ^^^ 1) % 2 == 1) = !(x / 2 ^ 63 % 2 == 1) := by
    have h := Nat.xor_mod_two_pow (a := x / 2 ^ 63) (b := 1) (n := 1)
    rw [Nat.pow_one] at h
    rw [h]
    rcases Nat.mod_two_eq_zero_or_one (x / 2 ^ 63) with h1 | h1 <;> rw [h1] <;> decide
  dsimp only
  rw [e1]
  split
  · rfl
  · split
    · rfl
    · split <;> rfl
theorem fi_neg {x : Nat} {n : Int} (h : FI x n) : FI (Op.negFloat .f64 x) (-n) := by
  unfold FI
  rw [read_neg]
  exact val_opp h
/-- The absolute value. -/
theorem read_abs (x : Nat) : Ieee.double.read (x % 2 ^ 63) = (match Ieee.double.read x with
    | .number _ m i => .number false m i
    | .infinity _ => .infinity false
    | .nan _ f => .nan false f) := by
  unfold Ieee.Format.read
  rw [sw63, Nat.mod_mod, Nat.div_eq_of_lt (Nat.mod_lt x (by decide : 0 < 2 ^ 63))]
  dsimp only
  split
  · rfl
  · split
    · rfl
    · split <;> rfl
theorem fi_abs {x : Nat} {n : Int} (h : FI x n) : FI (x % 2 ^ 63) n.natAbs := by
  obtain ⟨s, m, i, e, h⟩ := h
  unfold FI
  rw [read_abs, e]
  refine ⟨false, m, i, rfl, ?_⟩
  have h2 := congrArg Int.natAbs h
  rw [Int.natAbs_mul, Int.natAbs_mul, Int.natAbs_pow, Int.natAbs_pow] at h2
  have e1 : (if s = true then -(m : Int) else (m : Int)).natAbs = m := by cases s <;> simp
  rw [e1] at h2
  have h3 := congrArg (Nat.cast : Nat → Int) h2
  push_cast at h3
  simpa using h3
/-- The bits of the absolute value. -/
theorem abs_bits (x : Nat) : (bits .andNot .u64 (x : Int) 9223372036854775808).toNat = x % 2 ^ 63 := by
  have h1 : bits .andNot .u64 (x : Int) 9223372036854775808 = bits .andNot .u64 ((BitVec.ofNat 64 x).toNat : Int) 9223372036854775808 := by
    show IntKind.u64.wrap (((BitVec.ofInt 64 (x : Int)) &&& ~~~(BitVec.ofInt 64 9223372036854775808)).toNat : Int) = IntKind.u64.wrap (((BitVec.ofInt 64 ((BitVec.ofNat 64 x).toNat : Int)) &&& ~~~(BitVec.ofInt 64 9223372036854775808)).toNat : Int)
    rw [ofInt_nat, BitVec.ofInt_natCast]
  have h2 : (9223372036854775808 : Int) = ((9223372036854775808#64).toNat : Int) := by decide
  rw [h1, h2, andNot_w, Int.toNat_natCast]
  have h3 : BitVec.ofNat 64 x &&& ~~~9223372036854775808#64 = BitVec.ofNat 64 (x % 2 ^ 63) := by
    apply BitVec.eq_of_getLsbD_eq
    intro i hi
    rw [BitVec.getLsbD_and, BitVec.getLsbD_not, BitVec.getLsbD_ofNat, BitVec.getLsbD_ofNat, BitVec.getLsbD_ofNat, Nat.testBit_mod_two_pow]
    rw [show (9223372036854775808 : Nat) = 2 ^ 63 from rfl, Nat.testBit_two_pow]
    by_cases h63 : i = 63
    · subst h63; simp
    · have : i < 63 := by omega
      simp [hi, this, h63]
      intro _; omega
  rw [h3, BitVec.toNat_ofNat]
  have := Nat.mod_lt x (show 0 < 2 ^ 63 by decide)
  omega
theorem wf_lt {x : Nat} (h : (Lit.float .f64 x).wf = true) : x < 18446744073709551616 := by
  simp [Lit.wf] at h
  exact h
/-- What a whole number's whole part is. -/
theorem val_integral {x : Nat} {n : Int} (h : FI x n) : Val ((Ieee.double.read x).integral .zero) n := by
  have h1 := fi_toInt h
  change (Ieee.double.read x).toInt .zero = some n at h1
  obtain ⟨s, m, i, e, _⟩ := h
  rw [e] at h1 ⊢
  refine ⟨_, _, _, rfl, ?_⟩
  have h2 := Option.some.inj (show some (Ieee.signed s (Ieee.Toward.zero.cut s (m <<< i.toNat) (-i).toNat) 0) = some n from h1)
  rw [← h2, signed_eq]
  simp only [Int.neg_zero, Int.toNat_zero, Int.pow_zero, Int.mul_one]
theorem fi_trunc {x : Nat} {n : Int} (h : FI x n) (hb : Bd 9007199254740992 n) : FI (FloatKind.f64.encode ((FloatKind.f64.decode x).integral .zero)) n := by
  unfold Bd at hb
  exact read_write (val_integral h) (by omega) (by omega)
/-- No test of a NaN holds. -/
theorem ord_nan (r : Nat) {x : Nat} {s : Bool} {t : Nat} (h : Ieee.double.read x = .nan s t) : FloatKind.f64.format.order r x = none := by
  show (Ieee.double.read r).order (Ieee.double.read x) = none
  rw [h]
  cases Ieee.double.read r <;> rfl
/-- The whole part of a number that is not greater than 2^53. -/
theorem cut_bd {s : Bool} {m : Nat} {i : Int} (h : (m : Int) * 2 ^ i.toNat ≤ 9007199254740992 * 2 ^ (-i).toNat) : Ieee.Toward.zero.cut s (m <<< i.toNat) (-i).toNat ≤ 9007199254740992 := by
  have hM : (m <<< i.toNat) ≤ 9007199254740992 * 2 ^ (-i).toNat := by
    rw [Nat.shiftLeft_eq]
    have e : ((m * 2 ^ i.toNat : Nat) : Int) ≤ ((9007199254740992 * 2 ^ (-i).toNat : Nat) : Int) := by
      rw [Int.natCast_mul, Int.natCast_pow, Int.natCast_mul, Int.natCast_pow]
      exact h
    exact_mod_cast e
  unfold Ieee.Toward.cut
  dsimp only
  rw [Bool.toNat_false, Nat.add_zero, Nat.shiftLeft_eq 1, Nat.one_mul]
  generalize hP : m <<< i.toNat = P at *
  by_cases hd : (-i).toNat ≤ P.log2 + 2
  · rw [Nat.min_eq_left hd]
    exact Nat.div_le_of_le_mul (by rw [Nat.mul_comm]; exact hM)
  · rw [Nat.min_eq_right (by omega)]
    have : P < 2 ^ (P.log2 + 2) := Nat.lt_of_lt_of_le (Nat.lt_log2_self (n := P)) (Nat.pow_le_pow_right (by decide) (by omega))
    rw [Nat.div_eq_of_lt this]
    omega
theorem trunc_no_aux {x : Nat} (h : ¬ WholeW x) {s : Bool} {m : Nat} {i : Int} (hx : Ieee.double.read x = .number s m i) (h1 : (m : Int) * 2 ^ i.toNat ≤ 9007199254740992 * 2 ^ (-i).toNat) :
    FloatKind.f64.format.order (FloatKind.f64.encode ((FloatKind.f64.decode x).integral .zero)) x ≠ some .eq := by
  intro e
  have hc := cut_bd (s := s) h1
  have hd : (FloatKind.f64.decode x).integral .zero = .number s (Ieee.Toward.zero.cut s (m <<< i.toNat) (-i).toNat) 0 := by
    show (Ieee.double.read x).integral .zero = _
    rw [hx]; rfl
  rw [hd] at e
  generalize Ieee.Toward.zero.cut s (m <<< i.toNat) (-i).toNat = k at *
  have hb : Bd 9007199254740992 (if s then -(k : Int) else k) := by unfold Bd; cases s <;> simp <;> omega
  have hv : Val (.number s k 0) (if s then -(k : Int) else k) := ⟨s, k, 0, rfl, rfl⟩
  have hf : FI (FloatKind.f64.encode (.number s k 0)) (if s then -(k : Int) else k) := read_write hv (by unfold Bd at hb; omega) (by unfold Bd at hb; omega)
  rw [num_ord2 hx hf] at e
  exact h ⟨_, ⟨s, m, i, hx, Int.compare_eq_eq.1 (Option.some.inj e)⟩, hb⟩
/-- What the tests say of a word that is no whole number, nor a NaN. -/
theorem trunc_no {x : Nat} (h : ¬ WholeW x) (hn : ∀ s t, Ieee.double.read x ≠ .nan s t) :
    FloatKind.f64.format.order (FloatKind.f64.encode ((FloatKind.f64.decode x).integral .zero)) x ≠ some .eq ∨ FloatKind.f64.format.order (x % 2 ^ 63) 4845873199050653696 = some .gt := by
  rcases hx : Ieee.double.read x with ⟨s, m, i⟩ | s | ⟨s, f⟩
  · rcases Int.lt_trichotomy ((m : Int) * 2 ^ i.toNat) (9007199254740992 * 2 ^ (-i).toNat) with h1 | h1 | h1
    · left
      exact trunc_no_aux h hx (by omega)
    · left
      exact trunc_no_aux h hx (by omega)
    · right
      have hy : Ieee.double.read (x % 2 ^ 63) = .number false m i := by rw [read_abs, hx]
      rw [num_ord hy fi_hi]
      exact congrArg some (Int.compare_eq_gt.2 h1)
  · right
    show (Ieee.double.read (x % 2 ^ 63)).order (Ieee.double.read 4845873199050653696) = some .gt
    obtain ⟨t, n, j, e, _⟩ := fi_hi
    rw [read_abs, hx, e]
    rfl
  · exact absurd hx (hn s f)
end Go.Proofs.Ythdboeegngcfeaa
