/-
  Package network: words of its contracts.
-/
import Derived.Test.YthdghhfdbckilaaDoorRef12s
import Derived.Test.YthdghhfdbckilaaDoorSlW
import Derived.Test.YthdghhfdbckilaaDoorRf
import Derived.Test.YthdghhfdbckilaaDoorTail
import Derived.Test.YthdghhfdbckilaaDoorRow
import Derived.Test.YthdghhfdbckilaaDoorIn
import Derived.Test.YthdghhfdbckilaaDoorLen
namespace Go.Proofs.YthdghhfdbckilaaDoor
open Go.RowKit
set_option maxRecDepth 100000
set_option linter.unusedVariables false
set_option linter.unusedSimpArgs false

/-- A list of comparators of the call's own. -/
def RowT (base : Nat) (w0 w : World) (v : Value) (cs : List (Nat × Nat)) : Prop := w.ownsRow base 62 2 v cs.length (cs.flatMap pairC) ∧ Below base w0 w
/-- A comparator's value. -/
def cmpV (cs : List (Nat × Nat)) (k : Nat) : Value := .agg #[.int .i64 ((cs.getD k (0, 0)).1 : Nat), .int .i64 ((cs.getD k (0, 0)).2 : Nat)]
/-- An iterator over comparators. -/
def SeqC (w : World) (base : Nat) (v : Value) (cs : List (Nat × Nat)) : Prop :=
  ∃ (gf : Nat) (lb : Array Value) (bs : List (Nat × Obj)), v = .func (.func gf) #[] lb ∧ (∀ args w, (callFunc gf args).run Tryd.prog w = .ok (.enter gf args) w) ∧ (∀ p ∈ bs, base ≤ p.1 ∧ w.heap[p.1]? = some p.2) ∧
    Yields Fence.wide 8 Tryd.prog gf lb (fun k => #[cmpV cs k]) cs.length (fun _ W => ∀ p ∈ bs, W.heap[p.1]? = some p.2) (fun _ W W' => Below W.heap.size W W') (fun W W' => Below W.heap.size W W')
def roundsN (n : Int) : Int := if isN n then (lgN n * (lgN n + 1) / 2 : Nat) else 0
def applyN (xs : List Int) : List Int := if isN xs.length then Net.netL (lgN xs.length) xs else []
/-! ### Powers of two -/
theorem bl_lgN {n : Int} (h1 : 1 ≤ n) (h2 : n ≤ 4096) : lgN n = bl (n - 1).toNat := by
  obtain ⟨m, hm⟩ : ∃ m : Nat, m = (n - 1).toNat := ⟨_, rfl⟩
  rw [← hm]
  have hn : n = (m : Int) + 1 := by omega
  by_cases h0 : m = 0
  · subst h0
    exact lgN_eq (r := 0) (by rw [hn]; decide) (fun b hb => by omega) (by omega)
  · obtain ⟨k1, k2⟩ := bl_bd (show 0 < m by omega)
    have h12 : bl m ≤ 12 := by
      by_cases e : bl m ≤ 12
      · exact e
      · have := Nat.pow_le_pow_right (n := 2) (by omega) (show 12 ≤ bl m - 1 by omega); omega
    refine lgN_eq (by omega) (fun b hb => ?_) h12
    have := Nat.pow_le_pow_right (n := 2) (by omega) (show b ≤ bl m - 1 by omega)
    omega
theorem xor_pow : ∀ (c i : Nat), i ^^^ 2 ^ c = if i / 2 ^ c % 2 = 0 then i + 2 ^ c else i - 2 ^ c
  | 0, i => by
    have h1 := Nat.xor_div_two (a := i) (b := 1)
    have h2 := Nat.xor_mod_two_eq_one (a := i) (b := 1)
    simp only [Nat.reduceDiv, Nat.xor_zero] at h1
    simp only [Nat.pow_zero, Nat.div_one]
    by_cases e : i % 2 = 0
    · rw [if_pos e]
      have : (i ^^^ 1) % 2 = 1 := h2.2 (by omega)
      omega
    · rw [if_neg e]
      have : ¬ (i ^^^ 1) % 2 = 1 := fun h => h2.1 h (by omega)
      omega
  | c + 1, i => by
    have h1 := Nat.xor_div_two (a := i) (b := 2 ^ (c + 1))
    have h2 := Nat.xor_mod_two_eq_one (a := i) (b := 2 ^ (c + 1))
    have e1 : 2 ^ (c + 1) / 2 = 2 ^ c := by rw [Nat.pow_succ]; simp
    have e2 : 2 ^ (c + 1) % 2 = 0 := by rw [Nat.pow_succ]; omega
    have e3 : 2 ^ (c + 1) = 2 * 2 ^ c := by rw [Nat.pow_succ]; omega
    rw [e1, xor_pow c (i / 2)] at h1
    have e4 : i / 2 / 2 ^ c = i / 2 ^ (c + 1) := by rw [e3, Nat.div_div_eq_div_mul]
    rw [e4] at h1
    have h3 : (i ^^^ 2 ^ (c + 1)) % 2 = i % 2 := by
      rcases Nat.mod_two_eq_zero_or_one i with e | e
      · have : ¬ (i ^^^ 2 ^ (c + 1)) % 2 = 1 := fun h => h2.1 h (by omega)
        omega
      · rw [e]; exact h2.2 (by omega)
    clear h2
    by_cases hb : i / 2 ^ (c + 1) % 2 = 0
    · rw [if_pos hb] at h1 ⊢
      omega
    · rw [if_neg hb] at h1 ⊢
      have hge : 2 ^ (c + 1) ≤ i := by
        by_cases e : 2 ^ (c + 1) ≤ i
        · exact e
        · rw [Nat.div_eq_of_lt (by omega)] at hb; simp at hb
      omega
theorem i64_bits {x : Nat} (h : x < 9223372036854775808) : BitVec.ofInt 64 (x : Int) = BitVec.ofNat 64 x := by rw [BitVec.ofInt_natCast]
theorem xor_i {i j : Nat} (hi : i < 4096) (hj : j ≤ 4096) : bits .xor .i64 (i : Int) (j : Int) = ((i ^^^ j : Nat) : Int) := by
  show IntKind.i64.wrap (((BitVec.ofInt 64 (i : Int)) ^^^ (BitVec.ofInt 64 (j : Int))).toNat : Int) = _
  rw [i64_bits (by omega), i64_bits (by omega), BitVec.toNat_xor, BitVec.toNat_ofNat, BitVec.toNat_ofNat, Nat.mod_eq_of_lt (by omega), Nat.mod_eq_of_lt (by omega), wrap_s]
  have : i ^^^ j < 2 ^ 13 := Nat.xor_lt_two_pow (by omega) (by omega)
  omega
theorem and_i {i j : Nat} (hi : i < 4096) (hj : j ≤ 4096) : bits .and .i64 (i : Int) (j : Int) = ((i &&& j : Nat) : Int) := by
  show IntKind.i64.wrap (((BitVec.ofInt 64 (i : Int)) &&& (BitVec.ofInt 64 (j : Int))).toNat : Int) = _
  rw [i64_bits (by omega), i64_bits (by omega), BitVec.toNat_and, BitVec.toNat_ofNat, BitVec.toNat_ofNat, Nat.mod_eq_of_lt (by omega), Nat.mod_eq_of_lt (by omega), wrap_s]
  have : i &&& j ≤ i := Nat.and_le_left
  omega
theorem and_pow (a i : Nat) : (i &&& 2 ^ a = 0) = (i / 2 ^ a % 2 = 0) := by
  refine propext ⟨fun h => ?_, fun h => ?_⟩
  · have h1 : (i &&& 2 ^ a).testBit a = false := by rw [h, Nat.zero_testBit]
    rw [Nat.testBit_and, Nat.testBit_two_pow_self, Bool.and_true, Nat.testBit_eq_decide_div_mod_eq, decide_eq_false_iff_not] at h1
    omega
  · refine Nat.eq_of_testBit_eq fun j => ?_
    rw [Nat.testBit_and, Nat.zero_testBit]
    by_cases e : a = j
    · subst e
      rw [Nat.testBit_eq_decide_div_mod_eq, decide_eq_false (by omega), Bool.false_and]
    · rw [Nat.testBit_two_pow_of_ne e, Bool.and_false]
/-- The comparator of an index and its greater partner. -/
def cmpP (i p k : Nat) : Nat × Nat := if i / k % 2 = 0 then (i, p) else (p, i)
theorem cmpAt_some {K J i : Nat} (h : i / J % 2 = 0) : Net.cmpAt K J i = some (cmpP i (i + J) K) := by
  unfold Net.cmpAt cmpP
  rw [if_neg (by omega)]
  by_cases e : i / K % 2 = 0
  · rw [if_neg (by omega), if_pos e]
  · rw [if_pos (by omega), if_neg e]
end Go.Proofs.YthdghhfdbckilaaDoor
