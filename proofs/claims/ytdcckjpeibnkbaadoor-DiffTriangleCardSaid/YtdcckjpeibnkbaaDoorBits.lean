/-
  Plain mathematics: the walk's operations on 64-bit words, brought to machine words (BitVec 64) and to masks. No program is named here.
-/
import Derived.Laws.Entries
import Derived.RowKit
import Derived.WalkKit
namespace Go.Proofs.YtdcckjpeibnkbaaDoor
open Go

/-- All ones. -/
def ones : Int := 18446744073709551615
/-- The highest bit. -/
def top : Int := 9223372036854775808
/-- The mask of a condition. -/
def mk (c : Bool) : Int := if c then ones else 0
/-- A word's range. -/
def U (a : Int) : Prop := 0 ≤ a ∧ a ≤ 18446744073709551615
/-- A signed word's range. -/
def S (a : Int) : Prop := -9223372036854775808 ≤ a ∧ a ≤ 9223372036854775807

theorem mk_true : mk true = 18446744073709551615 := rfl
theorem mk_false : mk false = 0 := rfl
theorem U_mk (c : Bool) : U (mk c) := by cases c <;> simp [mk, U, ones]
theorem mk_nonneg (c : Bool) : 0 ≤ mk c := (U_mk c).1

theorem wrap_u (n : Int) : IntKind.u64.wrap n = n % 18446744073709551616 := by simp [IntKind.wrap, IntKind.bits, IntKind.signed]
theorem wrap_s (n : Int) : IntKind.i64.wrap n = (n + 9223372036854775808) % 18446744073709551616 - 9223372036854775808 := by
  simp [IntKind.wrap, IntKind.bits, IntKind.signed]; split <;> omega
theorem U_wrap (n : Int) : U (IntKind.u64.wrap n) := by rw [wrap_u]; unfold U; omega
theorem S_wrap (n : Int) : S (IntKind.i64.wrap n) := by rw [wrap_s]; unfold S; omega

/-- A word out of its number. -/
theorem ofInt_nat (x : BitVec 64) : BitVec.ofInt 64 (x.toNat : Int) = x := by
  rw [BitVec.ofInt_natCast]; simp
theorem wrap_nat (x : BitVec 64) : IntKind.u64.wrap (x.toNat : Int) = (x.toNat : Int) := by
  rw [wrap_u]; have := x.isLt; omega
theorem U_nat (x : BitVec 64) : U (x.toNat : Int) := by unfold U; have := x.isLt; omega
theorem U_word {a : Int} (h : U a) : ∃ x : BitVec 64, a = (x.toNat : Int) := by
  refine ⟨BitVec.ofNat 64 a.toNat, ?_⟩
  rw [BitVec.toNat_ofNat]; unfold U at h; omega
theorem S_word {a : Int} (h : S a) : ∃ x : BitVec 64, a = x.toInt := by
  refine ⟨BitVec.ofInt 64 a, ?_⟩
  unfold S at h
  rw [BitVec.toInt_ofInt]
  simp only [Int.bmod]
  split <;> omega

theorem and_w (x y : BitVec 64) : bits .and .u64 (x.toNat : Int) (y.toNat : Int) = ((x &&& y).toNat : Int) := by
  show IntKind.u64.wrap (((BitVec.ofInt 64 (x.toNat : Int)) &&& (BitVec.ofInt 64 (y.toNat : Int))).toNat : Int) = _
  rw [ofInt_nat, ofInt_nat, wrap_nat]
theorem or_w (x y : BitVec 64) : bits .or .u64 (x.toNat : Int) (y.toNat : Int) = ((x ||| y).toNat : Int) := by
  show IntKind.u64.wrap (((BitVec.ofInt 64 (x.toNat : Int)) ||| (BitVec.ofInt 64 (y.toNat : Int))).toNat : Int) = _
  rw [ofInt_nat, ofInt_nat, wrap_nat]
theorem xor_w (x y : BitVec 64) : bits .xor .u64 (x.toNat : Int) (y.toNat : Int) = ((x ^^^ y).toNat : Int) := by
  show IntKind.u64.wrap (((BitVec.ofInt 64 (x.toNat : Int)) ^^^ (BitVec.ofInt 64 (y.toNat : Int))).toNat : Int) = _
  rw [ofInt_nat, ofInt_nat, wrap_nat]
theorem andNot_w (x y : BitVec 64) : bits .andNot .u64 (x.toNat : Int) (y.toNat : Int) = ((x &&& ~~~y).toNat : Int) := by
  show IntKind.u64.wrap (((BitVec.ofInt 64 (x.toNat : Int)) &&& ~~~(BitVec.ofInt 64 (y.toNat : Int))).toNat : Int) = _
  rw [ofInt_nat, ofInt_nat, wrap_nat]
theorem max_w : IntKind.u64.max = ((BitVec.allOnes 64).toNat : Int) := by decide
theorem ones_w : ones = ((BitVec.allOnes 64).toNat : Int) := by decide
theorem one_w : (1 : Int) = ((1#64).toNat : Int) := by decide
theorem top_w : top = ((9223372036854775808#64).toNat : Int) := by decide
theorem not_w (x : BitVec 64) : bits .xor .u64 IntKind.u64.max (x.toNat : Int) = ((~~~x).toNat : Int) := by
  rw [max_w, xor_w, BitVec.allOnes_xor]
theorem sub_w (x y : BitVec 64) : IntKind.u64.wrap ((x.toNat : Int) - (y.toNat : Int)) = ((x - y).toNat : Int) := by
  rw [wrap_u, BitVec.toNat_sub]; have := x.isLt; have := y.isLt; omega

theorem U_and {a b : Int} (ha : U a) (hb : U b) : U (bits .and .u64 a b) := by
  obtain ⟨x, rfl⟩ := U_word ha; obtain ⟨y, rfl⟩ := U_word hb; rw [and_w]; exact U_nat _
theorem U_or {a b : Int} (ha : U a) (hb : U b) : U (bits .or .u64 a b) := by
  obtain ⟨x, rfl⟩ := U_word ha; obtain ⟨y, rfl⟩ := U_word hb; rw [or_w]; exact U_nat _
theorem U_xor {a b : Int} (ha : U a) (hb : U b) : U (bits .xor .u64 a b) := by
  obtain ⟨x, rfl⟩ := U_word ha; obtain ⟨y, rfl⟩ := U_word hb; rw [xor_w]; exact U_nat _
theorem U_andNot {a b : Int} (ha : U a) (hb : U b) : U (bits .andNot .u64 a b) := by
  obtain ⟨x, rfl⟩ := U_word ha; obtain ⟨y, rfl⟩ := U_word hb; rw [andNot_w]; exact U_nat _

/-- Bit. -/
theorem bit_raw {a : Int} (ha : U a) : bits .and .u64 a 1 = a % 2 := by
  obtain ⟨x, rfl⟩ := U_word ha
  rw [one_w, and_w, BitVec.toNat_and]
  show ((x.toNat &&& 1 : Nat) : Int) = _
  rw [Nat.and_one_is_mod]; omega
/-- Of. -/
theorem of_raw (a : Int) : bits .xor .u64 (IntKind.u64.wrap (a % 2 - 1)) ones = mk (decide (a % 2 = 1)) := by
  have : a % 2 = 0 ∨ a % 2 = 1 := by omega
  rcases this with h | h <;> rw [h] <;> decide
/-- Less: the borrow's highest bit. -/
theorem less_word (x y : BitVec 64) : (((~~~x &&& y) ||| (~~~(x ^^^ y) &&& (x - y))).toNat / 9223372036854775808) % 2 = 1 ↔ x.toNat < y.toNat := by
  have hm : ∀ z : BitVec 64, (z.toNat / 9223372036854775808) % 2 = 1 ↔ z.msb = true := by
    intro z
    rw [BitVec.msb_eq_decide]
    have := z.isLt
    simp only [decide_eq_true_eq]
    omega
  rw [hm]
  have hs := BitVec.toNat_sub x y
  have hx := x.isLt
  have hy := y.isLt
  simp only [BitVec.msb_or, BitVec.msb_and, BitVec.msb_not, BitVec.msb_xor]
  have ex : x.msb = decide (9223372036854775808 ≤ x.toNat) := BitVec.msb_eq_decide x
  have ey : y.msb = decide (9223372036854775808 ≤ y.toNat) := BitVec.msb_eq_decide y
  have ez : (x - y).msb = decide (9223372036854775808 ≤ (x - y).toNat) := BitVec.msb_eq_decide _
  rw [ex, ey, ez, hs]
  by_cases p : 9223372036854775808 ≤ x.toNat <;> by_cases q : 9223372036854775808 ≤ y.toNat <;> simp [p, q] <;> omega
theorem less_raw {a b : Int} (ha : U a) (hb : U b) :
    decide ((bits .or .u64 (bits .and .u64 (bits .xor .u64 IntKind.u64.max a) b) (bits .and .u64 (bits .xor .u64 IntKind.u64.max (bits .xor .u64 a b)) (IntKind.u64.wrap (a - b))) / 9223372036854775808) % 2 = 1) = decide (a < b) := by
  obtain ⟨x, rfl⟩ := U_word ha
  obtain ⟨y, rfl⟩ := U_word hb
  rw [not_w, and_w, xor_w, not_w, sub_w, and_w, or_w]
  have h := less_word x y
  rw [decide_eq_decide]
  omega
/-- Select. -/
theorem sel_w (m x y : BitVec 64) : bits .or .u64 (bits .and .u64 (x.toNat : Int) (m.toNat : Int)) (bits .andNot .u64 (y.toNat : Int) (m.toNat : Int)) = (((x &&& m) ||| (y &&& ~~~m)).toNat : Int) := by
  rw [and_w, andNot_w, or_w]
def sel (m a b : Int) : Int := bits .or .u64 (bits .and .u64 a m) (bits .andNot .u64 b m)
theorem U_sel {m a b : Int} (hm : U m) (ha : U a) (hb : U b) : U (sel m a b) := U_or (U_and ha hm) (U_andNot hb hm)
theorem U_top : U top := by unfold U top; omega
theorem xor_zero {a b : Int} (ha : U a) (hb : U b) : decide (bits .xor .u64 a b = 0) = decide (a = b) := by
  obtain ⟨x, rfl⟩ := U_word ha
  obtain ⟨y, rfl⟩ := U_word hb
  rw [xor_w, decide_eq_decide]
  constructor
  · intro h
    have h0 : (x ^^^ y) = 0#64 := BitVec.eq_of_toNat_eq (by simpa using (by omega : (x ^^^ y).toNat = 0))
    have : x = y := BitVec.xor_eq_zero_iff.1 h0
    rw [this]
  · intro h
    have : x = y := BitVec.eq_of_toNat_eq (by omega)
    rw [this, BitVec.xor_self]; rfl
theorem xor_top (n : Nat) (hn : n < 18446744073709551616) : n ^^^ 9223372036854775808 = (n + 9223372036854775808) % 18446744073709551616 := by
  have h1 : (n ^^^ 9223372036854775808) % 2 ^ 63 = n % 2 ^ 63 := by
    rw [Nat.xor_mod_two_pow]; simp
  have h2 : (n ^^^ 9223372036854775808) / 2 ^ 63 = n / 2 ^ 63 ^^^ 1 := by
    rw [Nat.xor_div_two_pow]
  have h3 : n / 2 ^ 63 = 0 ∨ n / 2 ^ 63 = 1 := by omega
  rcases h3 with h3 | h3
  · rw [h3] at h2
    have : (0 ^^^ 1 : Nat) = 1 := rfl
    omega
  · rw [h3] at h2
    have : (1 ^^^ 1 : Nat) = 0 := rfl
    omega
/-- A signed word with its highest bit turned is moved by 2^63. -/
theorem flip_raw {a : Int} (ha : S a) : bits .xor .u64 (IntKind.u64.wrap a) top = a + 9223372036854775808 := by
  obtain ⟨x, hx⟩ := U_word (U_wrap a)
  rw [hx, top_w, xor_w, BitVec.toNat_xor]
  rw [wrap_u] at hx
  unfold S at ha
  have hl := x.isLt
  have e : (9223372036854775808#64).toNat = 9223372036854775808 := by decide
  rw [e, xor_top _ hl]
  omega
theorem lessSigned_raw {a b : Int} (ha : S a) (hb : S b) :
    decide (bits .xor .u64 (IntKind.u64.wrap a) top < bits .xor .u64 (IntKind.u64.wrap b) top) = decide (a < b) := by
  rw [flip_raw ha, flip_raw hb, decide_eq_decide]; omega
/-- Sign. -/
def sgn3 (n z : Int) : Int := if n % 2 = 1 then -1 else if z % 2 = 1 then 0 else 1
theorem not_bit {a : Int} (ha : U a) : bits .xor .u64 IntKind.u64.max a % 2 = 1 - a % 2 := by
  obtain ⟨x, rfl⟩ := U_word ha
  rw [not_w, BitVec.toNat_not]
  have := x.isLt
  omega
theorem sign_raw (n : Int) {z : Int} (hz : U z) : IntKind.i64.wrap (bits .or .u64 (mk (decide (n % 2 = 1))) (bits .xor .u64 IntKind.u64.max z % 2)) = sgn3 n z := by
  rw [not_bit hz]
  unfold sgn3
  have h : z % 2 = 0 ∨ z % 2 = 1 := by omega
  have h' : n % 2 = 0 ∨ n % 2 = 1 := by omega
  rcases h with h | h <;> rcases h' with h' | h' <;> rw [h, h'] <;> decide
theorem S_sgn3 (n z : Int) : S (sgn3 n z) := by unfold sgn3 S; split <;> (try split) <;> omega

/-! The reference's Select: bit after bit. -/
/-- The unit after k rounds: it comes to 0 behind the last. -/
def un (k : Nat) : Int := ((2 ^ k % 18446744073709551616 : Nat) : Int)
/-- The lowest k bits. -/
def low (n : Int) (k : Nat) : Int := ((n.toNat % 2 ^ k : Nat) : Int)
theorem un_lt {k : Nat} (h : k < 64) : un k = ((2 ^ k : Nat) : Int) := by
  unfold un
  have : 2 ^ k < 2 ^ 64 := Nat.pow_lt_pow_right (by omega) h
  rw [Nat.mod_eq_of_lt (by simpa using this)]
theorem un_pos {k : Nat} (h : k < 64) : 1 ≤ un k := by
  rw [un_lt h]; have := Nat.two_pow_pos k; omega
theorem un_le {k : Nat} (h : k < 64) : un k ≤ 9223372036854775808 := by
  rw [un_lt h]; have : 2 ^ k ≤ 2 ^ 63 := Nat.pow_le_pow_right (by omega) (by omega); simp at this; omega
theorem un_succ (k : Nat) : IntKind.u64.wrap (un k * 2) = un (k + 1) := by
  rw [wrap_u]; unfold un; rw [Nat.pow_succ]; omega
theorem low_zero (n : Int) : low n 0 = 0 := by unfold low; simp [Nat.mod_one]
theorem low_all {n : Int} (h : U n) : low n 64 = n := by
  unfold low; unfold U at h; simp; omega
theorem low_nonneg (n : Int) (k : Nat) : 0 ≤ low n k := by unfold low; omega
theorem low_lt {n : Int} {k : Nat} (h : k < 64) : low n k < un k := by
  rw [un_lt h]; unfold low; have := Nat.mod_lt n.toNat (Nat.two_pow_pos k); omega
/-- Bit k. -/
def bt (n : Int) (k : Nat) : Bool := n.toNat.testBit k
theorem bt_iff {n : Int} (hn : 0 ≤ n) {k : Nat} (h : k < 64) : n / un k % 2 = 1 ↔ bt n k = true := by
  rw [un_lt h]
  unfold bt
  rw [Nat.testBit_eq_decide_div_mod_eq, decide_eq_true_eq]
  obtain ⟨m, rfl⟩ := Int.eq_ofNat_of_zero_le hn
  rw [Int.toNat_natCast]
  constructor
  · intro e
    have e' : ((m / 2 ^ k % 2 : Nat) : Int) = 1 := by rw [Int.natCast_emod, Int.natCast_ediv]; exact e
    omega
  · intro e
    have e' : ((m / 2 ^ k % 2 : Nat) : Int) = 1 := by omega
    rw [Int.natCast_emod, Int.natCast_ediv] at e'; exact e'
theorem div_un_nonneg {n : Int} (hn : 0 ≤ n) {k : Nat} (h : k < 64) : 0 ≤ n / un k := Int.ediv_nonneg hn (by have := un_pos h; omega)
theorem div_un {n : Int} (hn : U n) {k : Nat} (h : k < 64) : (IntKind.u64.wrap (n.tdiv (un k))).tmod 2 = n / un k % 2 := by
  have h1 := un_pos h
  have h0 := div_un_nonneg hn.1 h
  have h2 : n / un k ≤ n := by
    have := Int.ediv_le_self (b := un k) hn.1
    exact this
  have e : n.tdiv (un k) = n / un k := Int.tdiv_eq_ediv_of_nonneg hn.1
  rw [e, wrap_u]
  unfold U at hn
  rw [Int.emod_eq_of_lt h0 (by omega), Int.tmod_eq_emod_of_nonneg h0]
theorem bt_test {n : Int} (hn : U n) {k : Nat} (h : k < 64) {c : Bool} (e : bt n k = c) : ((IntKind.u64.wrap (n.tdiv (un k))).tmod 2 == 1) = c := by
  rw [div_un hn h]
  have hb := bt_iff hn.1 h
  cases c
  · rw [beq_eq_false_iff_ne]; intro h'; rw [hb.1 h'] at e; cases e
  · rw [beq_iff_eq]; exact hb.2 e
theorem low_succ (n : Int) {k : Nat} (h : k < 64) : low n (k + 1) = low n k + if bt n k then un k else 0 := by
  rw [un_lt h]
  unfold low bt
  rw [Nat.mod_pow_succ, Nat.testBit_eq_decide_div_mod_eq]
  have h2 : n.toNat / 2 ^ k % 2 = 0 ∨ n.toNat / 2 ^ k % 2 = 1 := by omega
  rcases h2 with h2 | h2 <;> rw [h2] <;> simp
theorem bt_sel {m a b : Int} (hm : U m) (ha : U a) (hb : U b) {k : Nat} (h : k < 64) : bt (sel m a b) k = if bt m k then bt a k else bt b k := by
  obtain ⟨x, rfl⟩ := U_word hm
  obtain ⟨y, rfl⟩ := U_word ha
  obtain ⟨z, rfl⟩ := U_word hb
  unfold sel bt
  rw [sel_w]
  simp only [Int.toNat_natCast]
  have t : ∀ v : BitVec 64, v.toNat.testBit k = v.getLsbD k := fun v => rfl
  rw [t, t, t, t]
  simp only [BitVec.getLsbD_or, BitVec.getLsbD_and, BitVec.getLsbD_not, h]
  cases x.getLsbD k <;> simp
theorem sel_nat (m x y : BitVec 64) : sel (m.toNat : Int) (x.toNat : Int) (y.toNat : Int) = (((x &&& m) ||| (y &&& ~~~m)).toNat : Int) := by unfold sel; exact sel_w m x y
theorem sel_swap1 {m a b : Int} (hm : U m) (ha : U a) (hb : U b) : sel m (sel m a b) (sel m b a) = a := by
  obtain ⟨x, rfl⟩ := U_word hm
  obtain ⟨y, rfl⟩ := U_word ha
  obtain ⟨z, rfl⟩ := U_word hb
  rw [sel_nat, sel_nat, sel_nat]
  congr 2
  apply BitVec.eq_of_getLsbD_eq
  intro i hi
  simp only [BitVec.getLsbD_or, BitVec.getLsbD_and, BitVec.getLsbD_not, hi]
  cases x.getLsbD i <;> cases y.getLsbD i <;> cases z.getLsbD i <;> rfl
theorem sel_swap2 {m a b : Int} (hm : U m) (ha : U a) (hb : U b) : sel m (sel m b a) (sel m a b) = b := sel_swap1 hm hb ha
theorem sel_xor {m a b : Int} (hm : U m) (ha : U a) (hb : U b) : bits .xor .u64 (sel m b a) (sel m a b) = bits .xor .u64 a b := by
  obtain ⟨x, rfl⟩ := U_word hm
  obtain ⟨y, rfl⟩ := U_word ha
  obtain ⟨z, rfl⟩ := U_word hb
  rw [sel_nat, sel_nat, xor_w, xor_w]
  congr 2
  apply BitVec.eq_of_getLsbD_eq
  intro i hi
  simp only [BitVec.getLsbD_or, BitVec.getLsbD_and, BitVec.getLsbD_not, BitVec.getLsbD_xor, hi]
  cases x.getLsbD i <;> cases y.getLsbD i <;> cases z.getLsbD i <;> rfl
theorem mk_true_w : mk true = ((BitVec.allOnes 64).toNat : Int) := by decide
theorem mk_false_w : mk false = ((0#64).toNat : Int) := by decide
theorem sel_true {a b : Int} (ha : U a) (hb : U b) : sel (mk true) a b = a := by
  obtain ⟨y, rfl⟩ := U_word ha
  obtain ⟨z, rfl⟩ := U_word hb
  rw [mk_true_w, sel_nat]
  congr 2
  rw [BitVec.and_allOnes]; simp
theorem sel_false {a b : Int} (ha : U a) (hb : U b) : sel (mk false) a b = b := by
  obtain ⟨y, rfl⟩ := U_word ha
  obtain ⟨z, rfl⟩ := U_word hb
  rw [mk_false_w, sel_nat]
  congr 2
  have : ~~~(0#64) = BitVec.allOnes 64 := by decide
  rw [this, BitVec.and_allOnes]; simp
theorem sel_mk {a b : Int} (ha : U a) (hb : U b) (c : Bool) : sel (mk c) a b = if c then a else b := by
  cases c
  · exact sel_false ha hb
  · exact sel_true ha hb
end Go.Proofs.YtdcckjpeibnkbaaDoor
