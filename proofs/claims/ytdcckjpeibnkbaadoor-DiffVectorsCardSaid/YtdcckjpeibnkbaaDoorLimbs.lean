/-
  Plain mathematics: lists of words, the numbers that they write, and back. No program is named here.
-/
import Derived.Test.YtdcckjpeibnkbaaDoorNum
import Derived.Test.YtdcckjpeibnkbaaDoorBits
namespace Go.Proofs.YtdcckjpeibnkbaaDoor

/-- Words. -/
def Us (l : List Int) : Prop := ∀ d ∈ l, U d
theorem Us.cons {d : Int} {r : List Int} (h : Us (d :: r)) : U d ∧ Us r := ⟨h d (by simp), fun x hx => h x (by simp [hx])⟩
theorem Us.mk {d : Int} {r : List Int} (h0 : U d) (h : Us r) : Us (d :: r) := fun x hx => by
  rcases List.mem_cons.1 hx with rfl | hx
  · exact h0
  · exact h x hx
theorem Us.snoc {d : Int} {r : List Int} (h : Us r) (h0 : U d) : Us (r ++ [d]) := fun x hx => by
  rcases List.mem_append.1 hx with hx | hx
  · exact h x hx
  · simp at hx; subst hx; exact h0
theorem Us.take {l : List Int} (h : Us l) (n : Nat) : Us (l.take n) := fun x hx => h x (List.mem_of_mem_take hx)
theorem Us.at_ {l : List Int} (h : Us l) {j : Nat} (hj : j < l.length) : U l[j] := h _ (List.getElem_mem hj)
/-- The number of integers of n limbs. -/
def M (n : Nat) : Int := 18446744073709551616 ^ n
theorem M_zero : M 0 = 1 := rfl
theorem M_succ (n : Nat) : M (n + 1) = M n * 18446744073709551616 := Int.pow_succ _ _
theorem M_pos (n : Nat) : 0 < M n := Int.pow_pos (by decide)
theorem M_add (m n : Nat) : M (m + n) = M m * M n := Int.pow_add _ _ _
theorem M_digits (n : Nat) : M n = 65536 ^ (4 * n) := by
  unfold M
  rw [Int.pow_mul]
  rfl
/-- The number that words write, the least significant one first. -/
def uv : List Int → Int
  | [] => 0
  | d :: r => d + 18446744073709551616 * uv r
theorem uv_append (a b : List Int) : uv (a ++ b) = uv a + M a.length * uv b := by
  induction a with
  | nil => simp [uv, M]
  | cons d r ih => simp only [List.cons_append, uv, ih, List.length_cons]; rw [M_succ, Int.mul_add, ← Int.mul_assoc, Int.mul_comm 18446744073709551616 (M r.length)]; omega
theorem uv_snoc (a : List Int) (d : Int) : uv (a ++ [d]) = uv a + M a.length * d := by rw [uv_append]; simp [uv]
theorem uv_nonneg {l : List Int} (h : Us l) : 0 ≤ uv l := by
  induction l with
  | nil => simp [uv]
  | cons d r ih => have h1 := h.cons; have := ih h1.2; have := h1.1.1; simp only [uv]; omega
theorem uv_lt {l : List Int} (h : Us l) : uv l < M l.length := by
  induction l with
  | nil => simp [uv, M]
  | cons d r ih => have h1 := h.cons; have := ih h1.2; have := h1.1.2; simp only [uv, List.length_cons]; rw [M_succ]; omega
theorem uv_take_succ {l : List Int} {k : Nat} (h : k < l.length) : uv (l.take (k + 1)) = uv (l.take k) + M k * l[k] := by
  rw [List.take_succ_eq_append_getElem h, uv_snoc, List.length_take, Nat.min_eq_left (Nat.le_of_lt h)]
theorem uv_inj {xs : List Int} : ∀ {ys : List Int}, xs.length = ys.length → Us xs → Us ys → uv xs = uv ys → xs = ys := by
  induction xs with
  | nil => intro ys hl _ _ _; exact (List.eq_nil_of_length_eq_zero (by simpa using hl.symm)).symm
  | cons a r ih =>
    intro ys hl ha hb he
    match ys, hl, hb, he with
    | b :: s, hl, hb, he =>
      have h1 := ha.cons
      have h2 := hb.cons
      have h3 := h1.1
      have h4 := h2.1
      unfold U at h3 h4
      simp only [uv] at he
      have : a = b := by omega
      subst this
      rw [ih (by simpa using hl) h1.2 h2.2 (by omega)]
/-- The value in two's complement. -/
def sv (l : List Int) : Int := if 2 * uv l < M l.length then uv l else uv l - M l.length
theorem sv_last {r : List Int} {d : Int} (hr : Us r) (hd : U d) : sv (r ++ [d]) = if d < 9223372036854775808 then uv (r ++ [d]) else uv (r ++ [d]) - M (r.length + 1) := by
  have h1 := uv_lt hr
  have h0 := uv_nonneg hr
  have e := uv_snoc r d
  have hp := M_pos r.length
  unfold U at hd
  have key : (2 * uv (r ++ [d]) < M (r ++ [d]).length) ↔ d < 9223372036854775808 := by
    rw [e, List.length_append, List.length_singleton, M_succ]
    constructor
    · intro h
      rcases Int.lt_or_le d 9223372036854775808 with h' | h'
      · exact h'
      · have := Int.mul_le_mul_of_nonneg_left h' (Int.le_of_lt hp)
        omega
    · intro h
      have := Int.mul_le_mul_of_nonneg_left (show d + 1 ≤ 9223372036854775808 by omega) (Int.le_of_lt hp)
      rw [Int.mul_add] at this
      omega
  unfold sv
  by_cases h : d < 9223372036854775808
  · rw [if_pos (key.2 h), if_pos h]
  · rw [if_neg (fun hh => h (key.1 hh)), if_neg h, List.length_append, List.length_singleton]
theorem sv_top {l : List Int} (h : Us l) (h0 : 0 < l.length) : sv l = if l[l.length - 1] < 9223372036854775808 then uv l else uv l - 65536 ^ (4 * l.length) := by
  have hne : l ≠ [] := List.ne_nil_of_length_pos h0
  have e := List.dropLast_concat_getLast hne
  have hg : l.getLast hne = l[l.length - 1] := List.getLast_eq_getElem hne
  have hr : Us l.dropLast := fun d hd => h d (List.dropLast_subset _ hd)
  have hd : U (l.getLast hne) := h _ (List.getLast_mem hne)
  have := sv_last hr hd
  rw [e, List.length_dropLast, show l.length - 1 + 1 = l.length by omega, hg, M_digits] at this
  exact this
theorem sv_mod (l : List Int) (h : Us l) : sv l % M l.length = uv l := by
  have h1 := uv_lt h
  have h0 := uv_nonneg h
  unfold sv
  split
  · exact Int.emod_eq_of_lt h0 h1
  · rw [Int.sub_emod_right]; exact Int.emod_eq_of_lt h0 h1
theorem sv_range {l : List Int} (h : Us l) : -M l.length ≤ 2 * sv l ∧ 2 * sv l < M l.length := by
  have h1 := uv_lt h
  have h0 := uv_nonneg h
  unfold sv
  split <;> omega
/-- The limbs of a number. -/
def limbs : Nat → Int → List Int
  | 0, _ => []
  | n + 1, x => x % 18446744073709551616 :: limbs n (x / 18446744073709551616)
theorem limbs_length (n : Nat) (x : Int) : (limbs n x).length = n := by
  induction n generalizing x with
  | zero => rfl
  | succ n ih => simp [limbs, ih]
theorem limbs_us (n : Nat) (x : Int) : Us (limbs n x) := by
  induction n generalizing x with
  | zero => intro d h; cases h
  | succ n ih => exact Us.mk (by unfold U; omega) (ih _)
theorem limbs_uv (n : Nat) (x : Int) : uv (limbs n x) = x % M n := by
  induction n generalizing x with
  | zero => simp [limbs, uv, M_zero]
  | succ n ih =>
    simp only [limbs, uv, ih]
    rw [M_succ, Int.mul_comm (M n)]
    have h1 := Int.emod_add_mul_ediv x 18446744073709551616
    have hp := M_pos n
    have h2 := Int.emod_nonneg (x / 18446744073709551616) (show M n ≠ 0 by omega)
    have h3 := Int.emod_lt_of_pos (x / 18446744073709551616) hp
    have h4 := Int.emod_add_mul_ediv (x / 18446744073709551616) (M n)
    have e : x = (x % 18446744073709551616 + 18446744073709551616 * (x / 18446744073709551616 % M n)) + 18446744073709551616 * M n * (x / 18446744073709551616 / M n) := by
      rw [Int.mul_assoc, Int.add_assoc, ← Int.mul_add, h4]; omega
    have hm : 18446744073709551616 * (x / 18446744073709551616 % M n) + 18446744073709551616 ≤ 18446744073709551616 * M n := by omega
    conv => rhs; rw [e]
    rw [Int.add_mul_emod_self_left]
    exact (Int.emod_eq_of_lt (by omega) (by omega)).symm
/-- A list of words is that of its number. -/
theorem limbs_unique {l : List Int} {n : Nat} {x : Int} (hl : l.length = n) (h : Us l) (hx : uv l = x % M n) : l = limbs n x :=
  uv_inj (by rw [limbs_length, hl]) h (limbs_us n x) (by rw [limbs_uv, hx])
theorem limbs_sv {l : List Int} (h : Us l) : limbs l.length (sv l) = l := (limbs_unique rfl h (sv_mod l h).symm).symm
theorem limbs_congr {n : Nat} {x y : Int} (h : x % M n = y % M n) : limbs n x = limbs n y := limbs_unique (limbs_length n x) (limbs_us n x) (by rw [limbs_uv, h])
theorem sv_limbs {n : Nat} {x : Int} (h0 : -M n ≤ 2 * x) (h1 : 2 * x < M n) : sv (limbs n x) = x := by
  unfold sv
  rw [limbs_uv, limbs_length]
  have hp := M_pos n
  rcases Int.lt_or_le x 0 with h | h
  · have e : x % M n = x + M n := by rw [← Int.add_emod_right]; exact Int.emod_eq_of_lt (by omega) (by omega)
    rw [e, if_neg (by omega)]; omega
  · have e : x % M n = x := Int.emod_eq_of_lt h (by omega)
    rw [e, if_pos h1]
theorem ev_take_mod {ds : List Int} (h : Dg ds) (k : Nat) : ev (ds.take k) = ev ds % 65536 ^ k := by
  have h0 := ev_nonneg (h.take k)
  have h1 := ev_lt (h.take k)
  have e := ev_split ds k
  rcases Nat.lt_or_ge k ds.length with hk | hk
  · rw [Nat.min_eq_left (by omega)] at e
    rw [List.length_take, Nat.min_eq_left (by omega)] at h1
    rw [e, Int.add_mul_emod_self_left]
    exact (Int.emod_eq_of_lt h0 h1).symm
  · rw [List.take_of_length_le hk] at h0 h1 ⊢
    exact (Int.emod_eq_of_lt h0 (Int.lt_of_lt_of_le h1 (pow_le_pow hk))).symm
theorem uv_set {os : List Int} {j : Nat} (x : Int) (hj : j < os.length) : uv (os.set j x) = uv os + M j * (x - dgt os j) := by
  induction os generalizing j with
  | nil => simp at hj
  | cons d r ih =>
    cases j with
    | zero => simp [uv, dgt, List.set, M_zero]; omega
    | succ j =>
      have hj' : j < r.length := by simpa using hj
      simp only [List.set_cons_succ, uv, ih hj']
      have : dgt (d :: r) (j + 1) = dgt r j := by unfold dgt; simp
      rw [this, M_succ, Int.mul_add, ← Int.mul_assoc, Int.mul_comm 18446744073709551616 (M j)]
      omega
theorem Us.set_ {os : List Int} (h : Us os) (j : Nat) {x : Int} (h0 : U x) : Us (os.set j x) := fun d hd => by
  rcases List.mem_or_eq_of_mem_set hd with h' | rfl
  · exact h d h'
  · exact h0
theorem Us.dgt {os : List Int} (h : Us os) (j : Nat) : U (dgt os j) := by
  rcases Nat.lt_or_ge j os.length with hi | hi
  · rw [dgt_lt hi]; exact h.at_ hi
  · rw [dgt_ge hi]; unfold U; omega
theorem uv_ge {os : List Int} (h : Us os) {j : Nat} (hj : j < os.length) : M j * Go.Proofs.YtdcckjpeibnkbaaDoor.dgt os j ≤ uv os := by
  have e := uv_append (os.take j) (os.drop j)
  rw [List.take_append_drop, List.length_take, Nat.min_eq_left (by omega), List.drop_eq_getElem_cons hj] at e
  simp only [uv] at e
  have h1 := uv_nonneg (h.take j)
  have h2 : 0 ≤ uv (os.drop (j + 1)) := uv_nonneg fun d hd => h d (List.mem_of_mem_drop hd)
  have h3 : 0 ≤ M j * (18446744073709551616 * uv (os.drop (j + 1))) := Int.mul_nonneg (Int.le_of_lt (M_pos j)) (by omega)
  rw [Int.mul_add] at e
  rw [dgt_lt hj]
  omega
/-- A digit put into its word. -/
theorem limb_step {os dy : List Int} {q r : Nat} (hq : q < os.length) (hu : Us os) (hd : Dg dy) (h : uv os = ev (dy.take (4 * q + r))) :
    0 ≤ dgt os q ∧ dgt os q < 65536 ^ r ∧ 0 ≤ dgt dy (4 * q + r) * 65536 ^ r ∧ dgt os q + dgt dy (4 * q + r) * 65536 ^ r < 65536 ^ (r + 1) ∧
      uv (os.set q (dgt os q + dgt dy (4 * q + r) * 65536 ^ r)) = ev (dy.take (4 * q + r + 1)) := by
  have h1 := uv_ge hu hq
  have h2 := ev_lt (hd.take (4 * q + r))
  have h3 : (65536 : Int) ^ (dy.take (4 * q + r)).length ≤ 65536 ^ (4 * q + r) := pow_le_pow (by rw [List.length_take]; omega)
  have h4 := (hu.dgt q).1
  have hd' := hd.dgt (4 * q + r)
  have hp : (0 : Int) < 65536 ^ r := Int.pow_pos (by decide)
  have hM := M_pos q
  have e : (65536 : Int) ^ (4 * q + r) = M q * 65536 ^ r := by rw [Int.pow_add, ← M_digits]
  have hlt : dgt os q < 65536 ^ r := by
    rcases Int.lt_or_le (dgt os q) (65536 ^ r) with h' | h'
    · exact h'
    · have := Int.mul_le_mul_of_nonneg_left h' (Int.le_of_lt hM)
      rw [← e] at this
      omega
  have h5 : 0 ≤ dgt dy (4 * q + r) * 65536 ^ r := Int.mul_nonneg hd'.1 (Int.le_of_lt hp)
  have h6 : dgt dy (4 * q + r) * 65536 ^ r ≤ 65535 * 65536 ^ r := Int.mul_le_mul_of_nonneg_right (by omega) (Int.le_of_lt hp)
  refine ⟨h4, hlt, h5, by rw [Int.pow_succ]; omega, ?_⟩
  rw [uv_set _ hq, ev_take_dgt, h, e, Int.mul_comm (dgt dy (4 * q + r)), Int.mul_assoc]
  congr 1
  rw [show dgt os q + 65536 ^ r * dgt dy (4 * q + r) - dgt os q = 65536 ^ r * dgt dy (4 * q + r) by omega]
theorem zeros_us (k : Nat) : Us (List.replicate k 0) := fun d hd => by rw [List.eq_of_mem_replicate hd]; unfold U; omega
theorem zeros_uv (k : Nat) : uv (List.replicate k 0) = 0 := by
  induction k with
  | zero => rfl
  | succ k ih => simp [List.replicate_succ, uv, ih]
theorem mod_shift {x : Int} {n k : Nat} (h : 4 * n ≤ k) : (x + 65536 ^ k) % M n = x % M n := by
  obtain ⟨m, rfl⟩ := Nat.exists_eq_add_of_le h
  rw [Int.pow_add, ← M_digits, Int.add_mul_emod_self_left]
end Go.Proofs.YtdcckjpeibnkbaaDoor
