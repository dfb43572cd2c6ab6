/-
  Packed texts: Base, Poly.
-/
import Derived.Laws.Entries
import Derived.RowKit
import Derived.WalkKit
import Derived.Test.YthmkllpdkcmccaaGreatDoorRows
import Derived.Lib.Mul64
import Derived.Laws.MathBits
import Derived.Below
import Derived.ProofKit
import Derived.Laws.OwnMore
import Derived.OwnWalk
import Derived.Deep.Draws
import Derived.Lib.Hide
import Derived.Deep.OwnRows
import Derived.Laws.Concat
import Derived.Laws.Strings
/- Plain mathematics: the walk's operations on 64-bit words, brought to machine words (BitVec 64) and to masks. No program is named here. -/
namespace Go.Proofs.YthmkllpdkcmccaaGreatDoor
open Go

/-- All ones. -/
def ones : Int := 18446744073709551615
/-- The highest bit. -/
def top : Int := 9223372036854775808
/-- The mask of a condition. -/
def mk (c : Bool) : Int := if c then ones else 0
/-- A word's range. -/
def U (a : Int) : Prop := 0 ≤ a ∧ a ≤ 18446744073709551615
/-- A signed word's range. -/
def S (a : Int) : Prop := -9223372036854775808 ≤ a ∧ a ≤ 9223372036854775807

theorem mk_true : mk true = 18446744073709551615 := rfl
theorem U_mk (c : Bool) : U (mk c) := by cases c <;> simp [mk, U, ones]
theorem wrap_u (n : Int) : IntKind.u64.wrap n = n % 18446744073709551616 := by simp [IntKind.wrap, IntKind.bits, IntKind.signed]
theorem wrap_s (n : Int) : IntKind.i64.wrap n = (n + 9223372036854775808) % 18446744073709551616 - 9223372036854775808 := by
  simp [IntKind.wrap, IntKind.bits, IntKind.signed]; split <;> omega
theorem wrap_u64' {x : Int} (h1 : 0 ≤ x) (h2 : x < 18446744073709551616) : IntKind.u64.wrap x = x := by
  simp [IntKind.wrap, IntKind.signed, IntKind.bits]; omega
theorem U_wrap (n : Int) : U (IntKind.u64.wrap n) := by rw [wrap_u]; unfold U; omega
theorem S_wrap (n : Int) : S (IntKind.i64.wrap n) := by rw [wrap_s]; unfold S; omega

/-- A word out of its number. -/
theorem ofInt_nat (x : BitVec 64) : BitVec.ofInt 64 (x.toNat : Int) = x := by
  rw [BitVec.ofInt_natCast]; simp
theorem wrap_nat (x : BitVec 64) : IntKind.u64.wrap (x.toNat : Int) = (x.toNat : Int) := by
  rw [wrap_u]; have := x.isLt; omega
theorem U_nat (x : BitVec 64) : U (x.toNat : Int) := by unfold U; have := x.isLt; omega
theorem U_word {a : Int} (h : U a) : ∃ x : BitVec 64, a = (x.toNat : Int) := by
  refine ⟨BitVec.ofNat 64 a.toNat, ?_⟩
  rw [BitVec.toNat_ofNat]; unfold U at h; omega
theorem and_w (x y : BitVec 64) : bits .and .u64 (x.toNat : Int) (y.toNat : Int) = ((x &&& y).toNat : Int) := by
  show IntKind.u64.wrap (((BitVec.ofInt 64 (x.toNat : Int)) &&& (BitVec.ofInt 64 (y.toNat : Int))).toNat : Int) = _
  rw [ofInt_nat, ofInt_nat, wrap_nat]
theorem or_w (x y : BitVec 64) : bits .or .u64 (x.toNat : Int) (y.toNat : Int) = ((x ||| y).toNat : Int) := by
  show IntKind.u64.wrap (((BitVec.ofInt 64 (x.toNat : Int)) ||| (BitVec.ofInt 64 (y.toNat : Int))).toNat : Int) = _
  rw [ofInt_nat, ofInt_nat, wrap_nat]
theorem xor_w (x y : BitVec 64) : bits .xor .u64 (x.toNat : Int) (y.toNat : Int) = ((x ^^^ y).toNat : Int) := by
  show IntKind.u64.wrap (((BitVec.ofInt 64 (x.toNat : Int)) ^^^ (BitVec.ofInt 64 (y.toNat : Int))).toNat : Int) = _
  rw [ofInt_nat, ofInt_nat, wrap_nat]
theorem andNot_w (x y : BitVec 64) : bits .andNot .u64 (x.toNat : Int) (y.toNat : Int) = ((x &&& ~~~y).toNat : Int) := by
  show IntKind.u64.wrap (((BitVec.ofInt 64 (x.toNat : Int)) &&& ~~~(BitVec.ofInt 64 (y.toNat : Int))).toNat : Int) = _
  rw [ofInt_nat, ofInt_nat, wrap_nat]
theorem max_w : IntKind.u64.max = ((BitVec.allOnes 64).toNat : Int) := by decide
theorem one_w : (1 : Int) = ((1#64).toNat : Int) := by decide
theorem top_w : top = ((9223372036854775808#64).toNat : Int) := by decide
theorem not_w (x : BitVec 64) : bits .xor .u64 IntKind.u64.max (x.toNat : Int) = ((~~~x).toNat : Int) := by
  rw [max_w, xor_w, BitVec.allOnes_xor]
theorem sub_w (x y : BitVec 64) : IntKind.u64.wrap ((x.toNat : Int) - (y.toNat : Int)) = ((x - y).toNat : Int) := by
  rw [wrap_u, BitVec.toNat_sub]; have := x.isLt; have := y.isLt; omega

theorem U_and {a b : Int} (ha : U a) (hb : U b) : U (bits .and .u64 a b) := by
  obtain ⟨x, rfl⟩ := U_word ha; obtain ⟨y, rfl⟩ := U_word hb; rw [and_w]; exact U_nat _
theorem U_or {a b : Int} (ha : U a) (hb : U b) : U (bits .or .u64 a b) := by
  obtain ⟨x, rfl⟩ := U_word ha; obtain ⟨y, rfl⟩ := U_word hb; rw [or_w]; exact U_nat _
theorem U_xor {a b : Int} (ha : U a) (hb : U b) : U (bits .xor .u64 a b) := by
  obtain ⟨x, rfl⟩ := U_word ha; obtain ⟨y, rfl⟩ := U_word hb; rw [xor_w]; exact U_nat _
/-- Bit. -/
theorem bit_raw {a : Int} (ha : U a) : bits .and .u64 a 1 = a % 2 := by
  obtain ⟨x, rfl⟩ := U_word ha
  rw [one_w, and_w, BitVec.toNat_and]
  show ((x.toNat &&& 1 : Nat) : Int) = _
  rw [Nat.and_one_is_mod]; omega
/-- Of. -/
theorem of_raw (a : Int) : bits .xor .u64 (IntKind.u64.wrap (a % 2 - 1)) ones = mk (decide (a % 2 = 1)) := by
  have : a % 2 = 0 ∨ a % 2 = 1 := by omega
  rcases this with h | h <;> rw [h] <;> decide
/-- Less: the borrow's highest bit. -/
theorem less_word (x y : BitVec 64) : (((~~~x &&& y) ||| (~~~(x ^^^ y) &&& (x - y))).toNat / 9223372036854775808) % 2 = 1 ↔ x.toNat < y.toNat := by
  have hm : ∀ z : BitVec 64, (z.toNat / 9223372036854775808) % 2 = 1 ↔ z.msb = true := by
    intro z
    rw [BitVec.msb_eq_decide]
    have := z.isLt
    simp only [decide_eq_true_eq]
    omega
  rw [hm]
  have hs := BitVec.toNat_sub x y
  have hx := x.isLt
  have hy := y.isLt
  simp only [BitVec.msb_or, BitVec.msb_and, BitVec.msb_not, BitVec.msb_xor]
  have ex : x.msb = decide (9223372036854775808 ≤ x.toNat) := BitVec.msb_eq_decide x
  have ey : y.msb = decide (9223372036854775808 ≤ y.toNat) := BitVec.msb_eq_decide y
  have ez : (x - y).msb = decide (9223372036854775808 ≤ (x - y).toNat) := BitVec.msb_eq_decide _
  rw [ex, ey, ez, hs]
  by_cases p : 9223372036854775808 ≤ x.toNat <;> by_cases q : 9223372036854775808 ≤ y.toNat <;> simp [p, q] <;> omega
theorem less_raw {a b : Int} (ha : U a) (hb : U b) :
    decide ((bits .or .u64 (bits .and .u64 (bits .xor .u64 IntKind.u64.max a) b) (bits .and .u64 (bits .xor .u64 IntKind.u64.max (bits .xor .u64 a b)) (IntKind.u64.wrap (a - b))) / 9223372036854775808) % 2 = 1) = decide (a < b) := by
  obtain ⟨x, rfl⟩ := U_word ha
  obtain ⟨y, rfl⟩ := U_word hb
  rw [not_w, and_w, xor_w, not_w, sub_w, and_w, or_w]
  have h := less_word x y
  rw [decide_eq_decide]
  omega
/-- Select. -/
theorem sel_w (m x y : BitVec 64) : bits .or .u64 (bits .and .u64 (x.toNat : Int) (m.toNat : Int)) (bits .andNot .u64 (y.toNat : Int) (m.toNat : Int)) = (((x &&& m) ||| (y &&& ~~~m)).toNat : Int) := by
  rw [and_w, andNot_w, or_w]
def sel (m a b : Int) : Int := bits .or .u64 (bits .and .u64 a m) (bits .andNot .u64 b m)
theorem U_top : U top := by unfold U top; omega
theorem xor_zero {a b : Int} (ha : U a) (hb : U b) : decide (bits .xor .u64 a b = 0) = decide (a = b) := by
  obtain ⟨x, rfl⟩ := U_word ha
  obtain ⟨y, rfl⟩ := U_word hb
  rw [xor_w, decide_eq_decide]
  constructor
  · intro h
    have h0 : (x ^^^ y) = 0#64 := BitVec.eq_of_toNat_eq (by simpa using (by omega : (x ^^^ y).toNat = 0))
    have : x = y := BitVec.xor_eq_zero_iff.1 h0
    rw [this]
  · intro h
    have : x = y := BitVec.eq_of_toNat_eq (by omega)
    rw [this, BitVec.xor_self]; rfl
theorem xor_top (n : Nat) (hn : n < 18446744073709551616) : n ^^^ 9223372036854775808 = (n + 9223372036854775808) % 18446744073709551616 := by
  have h1 : (n ^^^ 9223372036854775808) % 2 ^ 63 = n % 2 ^ 63 := by
    rw [Nat.xor_mod_two_pow]; simp
  have h2 : (n ^^^ 9223372036854775808) / 2 ^ 63 = n / 2 ^ 63 ^^^ 1 := by
    rw [Nat.xor_div_two_pow]
  have h3 : n / 2 ^ 63 = 0 ∨ n / 2 ^ 63 = 1 := by omega
  rcases h3 with h3 | h3
  · rw [h3] at h2
    have : (0 ^^^ 1 : Nat) = 1 := rfl
    omega
  · rw [h3] at h2
    have : (1 ^^^ 1 : Nat) = 0 := rfl
    omega
/-- A signed word with its highest bit turned is moved by 2^63. -/
theorem flip_raw {a : Int} (ha : S a) : bits .xor .u64 (IntKind.u64.wrap a) top = a + 9223372036854775808 := by
  obtain ⟨x, hx⟩ := U_word (U_wrap a)
  rw [hx, top_w, xor_w, BitVec.toNat_xor]
  rw [wrap_u] at hx
  unfold S at ha
  have hl := x.isLt
  have e : (9223372036854775808#64).toNat = 9223372036854775808 := by decide
  rw [e, xor_top _ hl]
  omega
theorem lessSigned_raw {a b : Int} (ha : S a) (hb : S b) :
    decide (bits .xor .u64 (IntKind.u64.wrap a) top < bits .xor .u64 (IntKind.u64.wrap b) top) = decide (a < b) := by
  rw [flip_raw ha, flip_raw hb, decide_eq_decide]; omega
/-- Sign. -/
def sgn3 (n z : Int) : Int := if n % 2 = 1 then -1 else if z % 2 = 1 then 0 else 1
theorem not_bit {a : Int} (ha : U a) : bits .xor .u64 IntKind.u64.max a % 2 = 1 - a % 2 := by
  obtain ⟨x, rfl⟩ := U_word ha
  rw [not_w, BitVec.toNat_not]
  have := x.isLt
  omega
theorem sign_raw (n : Int) {z : Int} (hz : U z) : IntKind.i64.wrap (bits .or .u64 (mk (decide (n % 2 = 1))) (bits .xor .u64 IntKind.u64.max z % 2)) = sgn3 n z := by
  rw [not_bit hz]
  unfold sgn3
  have h : z % 2 = 0 ∨ z % 2 = 1 := by omega
  have h' : n % 2 = 0 ∨ n % 2 = 1 := by omega
  rcases h with h | h <;> rcases h' with h' | h' <;> rw [h, h'] <;> decide
/-! The reference's Select: bit after bit. -/
/-- The lowest k bits. -/
def low (n : Int) (k : Nat) : Int := ((n.toNat % 2 ^ k : Nat) : Int)
theorem sel_nat (m x y : BitVec 64) : sel (m.toNat : Int) (x.toNat : Int) (y.toNat : Int) = (((x &&& m) ||| (y &&& ~~~m)).toNat : Int) := by unfold sel; exact sel_w m x y
theorem mk_true_w : mk true = ((BitVec.allOnes 64).toNat : Int) := by decide
theorem mk_false_w : mk false = ((0#64).toNat : Int) := by decide
theorem sel_true {a b : Int} (ha : U a) (hb : U b) : sel (mk true) a b = a := by
  obtain ⟨y, rfl⟩ := U_word ha
  obtain ⟨z, rfl⟩ := U_word hb
  rw [mk_true_w, sel_nat]
  congr 2
  rw [BitVec.and_allOnes]; simp
theorem sel_false {a b : Int} (ha : U a) (hb : U b) : sel (mk false) a b = b := by
  obtain ⟨y, rfl⟩ := U_word ha
  obtain ⟨z, rfl⟩ := U_word hb
  rw [mk_false_w, sel_nat]
  congr 2
  have : ~~~(0#64) = BitVec.allOnes 64 := by decide
  rw [this, BitVec.and_allOnes]; simp
end Go.Proofs.YthmkllpdkcmccaaGreatDoor
/- Plain mathematics: lists of digits of 16 bits and the numbers that they write. No program is named here. -/
namespace Go.Proofs.YthmkllpdkcmccaaGreatDoor

/-- The number that digits write, the least significant one first. -/
def ev : List Int → Int
  | [] => 0
  | d :: r => d + 65536 * ev r
/-- Digits. -/
def Dg (ds : List Int) : Prop := ∀ d ∈ ds, 0 ≤ d ∧ d < 65536
/-- Digits without leading zeros. -/
def Nf (ds : List Int) : Prop := Dg ds ∧ ∀ r d, ds = r ++ [d] → d ≠ 0
/-- Without leading zeros. -/
def trimL : List Int → List Int
  | [] => []
  | d :: r => match trimL r with
    | [] => if d = 0 then [] else [d]
    | e :: s => d :: e :: s
theorem Dg.nil_ : Dg [] := fun _ h => by cases h
theorem Dg.cons {d : Int} {r : List Int} (h : Dg (d :: r)) : (0 ≤ d ∧ d < 65536) ∧ Dg r := ⟨h d (by simp), fun x hx => h x (by simp [hx])⟩
theorem Dg.mk {d : Int} {r : List Int} (h0 : 0 ≤ d) (h1 : d < 65536) (h : Dg r) : Dg (d :: r) := fun x hx => by
  rcases List.mem_cons.1 hx with rfl | hx
  · exact ⟨h0, h1⟩
  · exact h x hx
theorem Dg.snoc {d : Int} {r : List Int} (h : Dg r) (h0 : 0 ≤ d) (h1 : d < 65536) : Dg (r ++ [d]) := fun x hx => by
  rcases List.mem_append.1 hx with hx | hx
  · exact h x hx
  · simp at hx; subst hx; exact ⟨h0, h1⟩
theorem Dg.take {ds : List Int} (h : Dg ds) (n : Nat) : Dg (ds.take n) := fun x hx => h x (List.mem_of_mem_take hx)
theorem Dg.at_ {ds : List Int} (h : Dg ds) {j : Nat} (hj : j < ds.length) : 0 ≤ ds[j] ∧ ds[j] < 65536 := h _ (List.getElem_mem hj)
/-- The digit at a place, or 0. -/
def dgt (ds : List Int) (i : Nat) : Int := ds.getD i 0
theorem dgt_lt {ds : List Int} {i : Nat} (h : i < ds.length) : dgt ds i = ds[i] := by unfold dgt; simp [h]
theorem dgt_ge {ds : List Int} {i : Nat} (h : ds.length ≤ i) : dgt ds i = 0 := by unfold dgt; simp [h]
theorem Dg.dgt {ds : List Int} (h : Dg ds) (i : Nat) : 0 ≤ dgt ds i ∧ dgt ds i < 65536 := by
  rcases Nat.lt_or_ge i ds.length with hi | hi
  · rw [dgt_lt hi]; exact h.at_ hi
  · rw [dgt_ge hi]; omega
theorem ev_append (a b : List Int) : ev (a ++ b) = ev a + 65536 ^ a.length * ev b := by
  induction a with
  | nil => simp [ev]
  | cons d r ih => simp only [List.cons_append, ev, ih, List.length_cons]; rw [Int.pow_succ, Int.mul_add, ← Int.mul_assoc, Int.mul_comm 65536 (65536 ^ r.length)]; omega
theorem ev_snoc (a : List Int) (d : Int) : ev (a ++ [d]) = ev a + 65536 ^ a.length * d := by rw [ev_append]; simp [ev]
theorem ev_nonneg {ds : List Int} (h : Dg ds) : 0 ≤ ev ds := by
  induction ds with
  | nil => simp [ev]
  | cons d r ih => have := h.cons; have := ih this.2; simp only [ev]; omega
theorem ev_lt {ds : List Int} (h : Dg ds) : ev ds < 65536 ^ ds.length := by
  induction ds with
  | nil => simp [ev]
  | cons d r ih => have h1 := h.cons; have := ih h1.2; simp only [ev, List.length_cons]; rw [Int.pow_succ]; omega
theorem ev_take_succ {ds : List Int} {k : Nat} (h : k < ds.length) : ev (ds.take (k + 1)) = ev (ds.take k) + 65536 ^ k * ds[k] := by
  rw [List.take_succ_eq_append_getElem h, ev_snoc, List.length_take, Nat.min_eq_left (Nat.le_of_lt h)]
/-- trimL. -/
theorem trimL_ev (ds : List Int) : ev (trimL ds) = ev ds := by
  induction ds with
  | nil => rfl
  | cons d r ih =>
    unfold trimL
    split
    · next e => rw [e] at ih; split <;> simp_all [ev, ← ih]
    · next e s h => rw [h] at ih; simp only [ev] at ih ⊢; rw [← ih]
theorem trimL_nf {ds : List Int} (h : Dg ds) : Nf (trimL ds) := by
  induction ds with
  | nil => exact ⟨Dg.nil_, fun r d e => by simp [trimL] at e⟩
  | cons d r ih =>
    have h1 := h.cons
    have ih := ih h1.2
    unfold trimL
    split
    · split
      · exact ⟨Dg.nil_, fun r d e => by simp at e⟩
      · next hd => exact ⟨Dg.mk h1.1.1 h1.1.2 Dg.nil_, fun r' d' e => by
          match r', e with
          | [], e => simp at e; omega
          | _ :: _, e => simp at e⟩
    · next e s he =>
      rw [he] at ih
      refine ⟨Dg.mk h1.1.1 h1.1.2 ih.1, fun r' d' e' => ?_⟩
      match r', e' with
      | [], e' => simp at e'
      | x :: r', e' => simp only [List.cons_append, List.cons.injEq] at e'; exact ih.2 r' d' e'.2
theorem trimL_snoc_zero (r : List Int) : trimL (r ++ [0]) = trimL r := by
  induction r with
  | nil => simp [trimL]
  | cons d r ih => simp only [List.cons_append, trimL, ih]
theorem trimL_snoc {d : Int} (h : d ≠ 0) (r : List Int) : trimL (r ++ [d]) = r ++ [d] := by
  induction r with
  | nil => simp [trimL, h]
  | cons x r ih =>
    simp only [List.cons_append, trimL, ih]
    cases hr : r ++ [d] with
    | nil => simp at hr
    | cons e s => rfl
theorem trimL_length (ds : List Int) : (trimL ds).length ≤ ds.length := by
  induction ds with
  | nil => simp [trimL]
  | cons d r ih =>
    unfold trimL
    split
    · split <;> simp
    · next e s h => rw [h] at ih; simp at ih ⊢; exact ih
theorem trimL_take (ds : List Int) : ∃ n, n ≤ ds.length ∧ trimL ds = ds.take n := by
  induction ds with
  | nil => exact ⟨0, by simp, rfl⟩
  | cons d r ih =>
    obtain ⟨n, hn, h⟩ := ih
    unfold trimL
    split
    · split
      · exact ⟨0, by simp, by simp⟩
      · exact ⟨1, by simp, by simp⟩
    · next e s he => exact ⟨n + 1, by simp; omega, by simp [← h, he]⟩
theorem Nf.pos {ds : List Int} (h : Nf ds) (hne : ds ≠ []) : 65536 ^ (ds.length - 1) ≤ ev ds := by
  have e := List.dropLast_concat_getLast hne
  have hd := h.2 _ _ e.symm
  have hr : 0 ≤ ds.getLast hne := (h.1 _ (List.getLast_mem hne)).1
  have hev : ev ds = ev ds.dropLast + 65536 ^ ds.dropLast.length * ds.getLast hne := by rw [← ev_snoc, e]
  have hn : 0 ≤ ev ds.dropLast := ev_nonneg fun x hx => h.1 x (List.dropLast_subset _ hx)
  rw [hev, List.length_dropLast]
  have hp : (0 : Int) ≤ 65536 ^ (ds.length - 1) := Int.pow_nonneg (by decide)
  have : 65536 ^ (ds.length - 1) * 1 ≤ 65536 ^ (ds.length - 1) * ds.getLast hne := Int.mul_le_mul_of_nonneg_left (by omega) hp
  omega
theorem Nf.ev_pos {ds : List Int} (h : Nf ds) (hne : ds ≠ []) : 0 < ev ds := by
  have := h.pos hne
  have hp : (0 : Int) < 65536 ^ (ds.length - 1) := Int.pow_pos (by decide)
  omega
theorem Nf.ev_zero {ds : List Int} (h : Nf ds) (h0 : ev ds = 0) : ds = [] := by
  rcases Classical.em (ds = []) with he | he
  · exact he
  · have := h.ev_pos he; omega
theorem ev_inj {xs : List Int} : ∀ {ys : List Int}, xs.length = ys.length → Dg xs → Dg ys → ev xs = ev ys → xs = ys := by
  induction xs with
  | nil => intro ys hl _ _ _; exact (List.eq_nil_of_length_eq_zero (by simpa using hl.symm)).symm
  | cons a r ih =>
    intro ys hl ha hb he
    match ys, hl, hb, he with
    | b :: s, hl, hb, he =>
      have h1 := ha.cons
      have h2 := hb.cons
      simp only [ev] at he
      have : a = b := by omega
      subst this
      rw [ih (by simpa using hl) h1.2 h2.2 (by omega)]
theorem Nf.length_le {ds : List Int} (h : Nf ds) {n : Nat} (hn : ev ds < 65536 ^ n) : ds.length ≤ n := by
  rcases Classical.em (ds = []) with he | he
  · subst he; simp
  · have h1 := h.pos he
    rcases Nat.lt_or_ge n ds.length with hlt | hge
    · have : (65536 : Int) ^ n ≤ 65536 ^ (ds.length - 1) := by
        obtain ⟨m, hm⟩ := Nat.exists_eq_add_of_le (show n ≤ ds.length - 1 by omega)
        rw [hm, Int.pow_add]
        have hp : (0 : Int) < 65536 ^ m := Int.pow_pos (by decide)
        have hq : (0 : Int) ≤ 65536 ^ n := Int.pow_nonneg (by decide)
        have := Int.mul_le_mul_of_nonneg_left (show (1 : Int) ≤ 65536 ^ m by omega) hq
        omega
      omega
    · exact hge
theorem Nf.inj {xs ys : List Int} (ha : Nf xs) (hb : Nf ys) (h : ev xs = ev ys) : xs = ys := by
  have h1 := ha.length_le (n := ys.length) (by rw [h]; exact ev_lt hb.1)
  have h2 := hb.length_le (n := xs.length) (by rw [← h]; exact ev_lt ha.1)
  exact ev_inj (by omega) ha.1 hb.1 h
theorem ev_take_dgt (ds : List Int) (k : Nat) : ev (ds.take (k + 1)) = ev (ds.take k) + 65536 ^ k * dgt ds k := by
  rcases Nat.lt_or_ge k ds.length with h | h
  · rw [ev_take_succ h, dgt_lt h]
  · rw [dgt_ge h, List.take_of_length_le (by omega), List.take_of_length_le h]; omega
/-- A digit of a sum. -/
theorem add_step {os as_ bs : List Int} {k : Nat} {cr s : Int} (hl : os.length = k) (h : ev os + 65536 ^ k * cr = ev (as_.take k) + ev (bs.take k)) (hs : s = dgt as_ k + dgt bs k + cr) :
    ev (os ++ [s % 65536]) + 65536 ^ (k + 1) * (s / 65536) = ev (as_.take (k + 1)) + ev (bs.take (k + 1)) := by
  rw [ev_snoc, ev_take_dgt, ev_take_dgt, hl, Int.pow_succ, Int.mul_assoc]
  have e : 65536 ^ k * (s % 65536) + 65536 ^ k * (65536 * (s / 65536)) = 65536 ^ k * s := by rw [← Int.mul_add]; congr 1; omega
  have e2 : 65536 ^ k * s = 65536 ^ k * dgt as_ k + 65536 ^ k * dgt bs k + 65536 ^ k * cr := by rw [hs, Int.mul_add, Int.mul_add]
  omega
/-- A digit of a difference. -/
theorem sub_step {os as_ bs : List Int} {k : Nat} {c s d c' : Int} (hl : os.length = k) (h : ev os = ev (as_.take k) - ev (bs.take k) + 65536 ^ k * c) (hs : s = dgt as_ k - dgt bs k - c) (hd : d = s + 65536 * c') :
    ev (os ++ [d]) = ev (as_.take (k + 1)) - ev (bs.take (k + 1)) + 65536 ^ (k + 1) * c' := by
  rw [ev_snoc, ev_take_dgt, ev_take_dgt, hl, Int.pow_succ, Int.mul_assoc]
  have e : 65536 ^ k * d = 65536 ^ k * s + 65536 ^ k * (65536 * c') := by rw [← Int.mul_add, hd]
  have e2 : 65536 ^ k * s = 65536 ^ k * dgt as_ k - 65536 ^ k * dgt bs k - 65536 ^ k * c := by rw [hs, Int.mul_sub, Int.mul_sub]
  omega
theorem sub_end {os as_ bs : List Int} {c : Int} (hl : os.length = as_.length) (h : ev os = ev as_ - ev bs + 65536 ^ as_.length * c) (h0 : 0 ≤ c) (h1 : c ≤ 1) (hd : Dg os) (hle : ev bs ≤ ev as_) : ev os = ev as_ - ev bs := by
  have h2 := ev_lt hd
  rw [hl] at h2
  have : c = 0 ∨ c = 1 := by omega
  rcases this with rfl | rfl
  · omega
  · omega
theorem ev_split (ds : List Int) (k : Nat) : ev ds = ev (ds.take k) + 65536 ^ (min k ds.length) * ev (ds.drop k) := by
  have h := ev_append (ds.take k) (ds.drop k)
  rw [List.take_append_drop, List.length_take] at h
  exact h
theorem sign_pos {n : Int} (h : 0 < n) : n.sign = 1 := Int.sign_eq_one_of_pos h
theorem sign_neg {n : Int} (h : n < 0) : n.sign = -1 := Int.sign_eq_neg_one_of_neg h
/-- Comparison of digits at the highest place at which they differ. -/
theorem cmp_at {as_ bs : List Int} {j : Nat} (ha : Dg as_) (hb : Dg bs) (hl : as_.length = bs.length) (hj : j < as_.length) (hd : as_.drop (j + 1) = bs.drop (j + 1)) :
    (dgt as_ j < dgt bs j → ev as_ < ev bs) ∧ (dgt bs j < dgt as_ j → ev bs < ev as_) := by
  have h1 := ev_split as_ (j + 1)
  have h2 := ev_split bs (j + 1)
  rw [Nat.min_eq_left (by omega), ev_take_dgt] at h1 h2
  rw [hd] at h1
  have a1 := ev_lt (ha.take j)
  have b1 := ev_lt (hb.take j)
  have a0 := ev_nonneg (ha.take j)
  have b0 := ev_nonneg (hb.take j)
  rw [List.length_take, Nat.min_eq_left (by omega)] at a1 b1
  have hp : (0 : Int) ≤ 65536 ^ j := Int.pow_nonneg (by decide)
  refine ⟨fun h => ?_, fun h => ?_⟩
  · have := Int.mul_le_mul_of_nonneg_left (show dgt as_ j + 1 ≤ dgt bs j by omega) hp
    rw [Int.mul_add] at this
    omega
  · have := Int.mul_le_mul_of_nonneg_left (show dgt bs j + 1 ≤ dgt as_ j by omega) hp
    rw [Int.mul_add] at this
    omega
theorem pow_le_pow {m n : Nat} (h : m ≤ n) : (65536 : Int) ^ m ≤ 65536 ^ n := by
  obtain ⟨k, rfl⟩ := Nat.exists_eq_add_of_le h
  rw [Int.pow_add]
  have hp : (0 : Int) < 65536 ^ k := Int.pow_pos (by decide)
  have hq : (0 : Int) ≤ 65536 ^ m := Int.pow_nonneg (by decide)
  have := Int.mul_le_mul_of_nonneg_left (show (1 : Int) ≤ 65536 ^ k by omega) hq
  omega
theorem cmp_len {as_ bs : List Int} (ha : Nf as_) (hb : Nf bs) (h : as_.length < bs.length) : ev as_ < ev bs := by
  have h1 := ev_lt ha.1
  have h2 := hb.pos (by intro he; subst he; simp at h)
  have h3 := pow_le_pow (show as_.length ≤ bs.length - 1 by omega)
  omega
theorem zeros_dg (k : Nat) : Dg (List.replicate k 0) := fun d hd => by rw [List.eq_of_mem_replicate hd]; decide
theorem zeros_ev (k : Nat) : ev (List.replicate k 0) = 0 := by
  induction k with
  | zero => rfl
  | succ k ih => simp [List.replicate_succ, ev, ih]
end Go.Proofs.YthmkllpdkcmccaaGreatDoor
/- Plain mathematics: lists of words, the numbers that they write, and back. No program is named here. -/
namespace Go.Proofs.YthmkllpdkcmccaaGreatDoor

/-- Words. -/
def Us (l : List Int) : Prop := ∀ d ∈ l, U d
theorem Us.cons {d : Int} {r : List Int} (h : Us (d :: r)) : U d ∧ Us r := ⟨h d (by simp), fun x hx => h x (by simp [hx])⟩
theorem Us.mk {d : Int} {r : List Int} (h0 : U d) (h : Us r) : Us (d :: r) := fun x hx => by
  rcases List.mem_cons.1 hx with rfl | hx
  · exact h0
  · exact h x hx
theorem Us.snoc {d : Int} {r : List Int} (h : Us r) (h0 : U d) : Us (r ++ [d]) := fun x hx => by
  rcases List.mem_append.1 hx with hx | hx
  · exact h x hx
  · simp at hx; subst hx; exact h0
theorem Us.take {l : List Int} (h : Us l) (n : Nat) : Us (l.take n) := fun x hx => h x (List.mem_of_mem_take hx)
theorem Us.at_ {l : List Int} (h : Us l) {j : Nat} (hj : j < l.length) : U l[j] := h _ (List.getElem_mem hj)
/-- The number of integers of n limbs. -/
def M (n : Nat) : Int := 18446744073709551616 ^ n
theorem M_zero : M 0 = 1 := rfl
theorem M_succ (n : Nat) : M (n + 1) = M n * 18446744073709551616 := Int.pow_succ _ _
theorem M_pos (n : Nat) : 0 < M n := Int.pow_pos (by decide)
theorem M_add (m n : Nat) : M (m + n) = M m * M n := Int.pow_add _ _ _
theorem M_digits (n : Nat) : M n = 65536 ^ (4 * n) := by
  unfold M
  rw [Int.pow_mul]
  rfl
/-- The number that words write, the least significant one first. -/
def uv : List Int → Int
  | [] => 0
  | d :: r => d + 18446744073709551616 * uv r
theorem uv_append (a b : List Int) : uv (a ++ b) = uv a + M a.length * uv b := by
  induction a with
  | nil => simp [uv, M]
  | cons d r ih => simp only [List.cons_append, uv, ih, List.length_cons]; rw [M_succ, Int.mul_add, ← Int.mul_assoc, Int.mul_comm 18446744073709551616 (M r.length)]; omega
theorem uv_snoc (a : List Int) (d : Int) : uv (a ++ [d]) = uv a + M a.length * d := by rw [uv_append]; simp [uv]
theorem uv_nonneg {l : List Int} (h : Us l) : 0 ≤ uv l := by
  induction l with
  | nil => simp [uv]
  | cons d r ih => have h1 := h.cons; have := ih h1.2; have := h1.1.1; simp only [uv]; omega
theorem uv_lt {l : List Int} (h : Us l) : uv l < M l.length := by
  induction l with
  | nil => simp [uv, M]
  | cons d r ih => have h1 := h.cons; have := ih h1.2; have := h1.1.2; simp only [uv, List.length_cons]; rw [M_succ]; omega
theorem uv_take_succ {l : List Int} {k : Nat} (h : k < l.length) : uv (l.take (k + 1)) = uv (l.take k) + M k * l[k] := by
  rw [List.take_succ_eq_append_getElem h, uv_snoc, List.length_take, Nat.min_eq_left (Nat.le_of_lt h)]
theorem uv_inj {xs : List Int} : ∀ {ys : List Int}, xs.length = ys.length → Us xs → Us ys → uv xs = uv ys → xs = ys := by
  induction xs with
  | nil => intro ys hl _ _ _; exact (List.eq_nil_of_length_eq_zero (by simpa using hl.symm)).symm
  | cons a r ih =>
    intro ys hl ha hb he
    match ys, hl, hb, he with
    | b :: s, hl, hb, he =>
      have h1 := ha.cons
      have h2 := hb.cons
      have h3 := h1.1
      have h4 := h2.1
      unfold U at h3 h4
      simp only [uv] at he
      have : a = b := by omega
      subst this
      rw [ih (by simpa using hl) h1.2 h2.2 (by omega)]
/-- The value in two's complement. -/
def sv (l : List Int) : Int := if 2 * uv l < M l.length then uv l else uv l - M l.length
theorem sv_last {r : List Int} {d : Int} (hr : Us r) (hd : U d) : sv (r ++ [d]) = if d < 9223372036854775808 then uv (r ++ [d]) else uv (r ++ [d]) - M (r.length + 1) := by
  have h1 := uv_lt hr
  have h0 := uv_nonneg hr
  have e := uv_snoc r d
  have hp := M_pos r.length
  unfold U at hd
  have key : (2 * uv (r ++ [d]) < M (r ++ [d]).length) ↔ d < 9223372036854775808 := by
    rw [e, List.length_append, List.length_singleton, M_succ]
    constructor
    · intro h
      rcases Int.lt_or_le d 9223372036854775808 with h' | h'
      · exact h'
      · have := Int.mul_le_mul_of_nonneg_left h' (Int.le_of_lt hp)
        omega
    · intro h
      have := Int.mul_le_mul_of_nonneg_left (show d + 1 ≤ 9223372036854775808 by omega) (Int.le_of_lt hp)
      rw [Int.mul_add] at this
      omega
  unfold sv
  by_cases h : d < 9223372036854775808
  · rw [if_pos (key.2 h), if_pos h]
  · rw [if_neg (fun hh => h (key.1 hh)), if_neg h, List.length_append, List.length_singleton]
theorem sv_top {l : List Int} (h : Us l) (h0 : 0 < l.length) : sv l = if l[l.length - 1] < 9223372036854775808 then uv l else uv l - 65536 ^ (4 * l.length) := by
  have hne : l ≠ [] := List.ne_nil_of_length_pos h0
  have e := List.dropLast_concat_getLast hne
  have hg : l.getLast hne = l[l.length - 1] := List.getLast_eq_getElem hne
  have hr : Us l.dropLast := fun d hd => h d (List.dropLast_subset _ hd)
  have hd : U (l.getLast hne) := h _ (List.getLast_mem hne)
  have := sv_last hr hd
  rw [e, List.length_dropLast, show l.length - 1 + 1 = l.length by omega, hg, M_digits] at this
  exact this
theorem sv_mod (l : List Int) (h : Us l) : sv l % M l.length = uv l := by
  have h1 := uv_lt h
  have h0 := uv_nonneg h
  unfold sv
  split
  · exact Int.emod_eq_of_lt h0 h1
  · rw [Int.sub_emod_right]; exact Int.emod_eq_of_lt h0 h1
theorem sv_range {l : List Int} (h : Us l) : -M l.length ≤ 2 * sv l ∧ 2 * sv l < M l.length := by
  have h1 := uv_lt h
  have h0 := uv_nonneg h
  unfold sv
  split <;> omega
/-- The limbs of a number. -/
def limbs : Nat → Int → List Int
  | 0, _ => []
  | n + 1, x => x % 18446744073709551616 :: limbs n (x / 18446744073709551616)
theorem limbs_length (n : Nat) (x : Int) : (limbs n x).length = n := by
  induction n generalizing x with
  | zero => rfl
  | succ n ih => simp [limbs, ih]
theorem limbs_us (n : Nat) (x : Int) : Us (limbs n x) := by
  induction n generalizing x with
  | zero => intro d h; cases h
  | succ n ih => exact Us.mk (by unfold U; omega) (ih _)
theorem limbs_uv (n : Nat) (x : Int) : uv (limbs n x) = x % M n := by
  induction n generalizing x with
  | zero => simp [limbs, uv, M_zero]
  | succ n ih =>
    simp only [limbs, uv, ih]
    rw [M_succ, Int.mul_comm (M n)]
    have h1 := Int.emod_add_mul_ediv x 18446744073709551616
    have hp := M_pos n
    have h2 := Int.emod_nonneg (x / 18446744073709551616) (show M n ≠ 0 by omega)
    have h3 := Int.emod_lt_of_pos (x / 18446744073709551616) hp
    have h4 := Int.emod_add_mul_ediv (x / 18446744073709551616) (M n)
    have e : x = (x % 18446744073709551616 + 18446744073709551616 * (x / 18446744073709551616 % M n)) + 18446744073709551616 * M n * (x / 18446744073709551616 / M n) := by
      rw [Int.mul_assoc, Int.add_assoc, ← Int.mul_add, h4]; omega
    have hm : 18446744073709551616 * (x / 18446744073709551616 % M n) + 18446744073709551616 ≤ 18446744073709551616 * M n := by omega
    conv => rhs; rw [e]
    rw [Int.add_mul_emod_self_left]
    exact (Int.emod_eq_of_lt (by omega) (by omega)).symm
/-- A list of words is that of its number. -/
theorem limbs_unique {l : List Int} {n : Nat} {x : Int} (hl : l.length = n) (h : Us l) (hx : uv l = x % M n) : l = limbs n x :=
  uv_inj (by rw [limbs_length, hl]) h (limbs_us n x) (by rw [limbs_uv, hx])
theorem limbs_congr {n : Nat} {x y : Int} (h : x % M n = y % M n) : limbs n x = limbs n y := limbs_unique (limbs_length n x) (limbs_us n x) (by rw [limbs_uv, h])
theorem sv_limbs {n : Nat} {x : Int} (h0 : -M n ≤ 2 * x) (h1 : 2 * x < M n) : sv (limbs n x) = x := by
  unfold sv
  rw [limbs_uv, limbs_length]
  have hp := M_pos n
  rcases Int.lt_or_le x 0 with h | h
  · have e : x % M n = x + M n := by rw [← Int.add_emod_right]; exact Int.emod_eq_of_lt (by omega) (by omega)
    rw [e, if_neg (by omega)]; omega
  · have e : x % M n = x := Int.emod_eq_of_lt h (by omega)
    rw [e, if_pos h1]
theorem uv_set {os : List Int} {j : Nat} (x : Int) (hj : j < os.length) : uv (os.set j x) = uv os + M j * (x - dgt os j) := by
  induction os generalizing j with
  | nil => simp at hj
  | cons d r ih =>
    cases j with
    | zero => simp [uv, dgt, List.set, M_zero]; omega
    | succ j =>
      have hj' : j < r.length := by simpa using hj
      simp only [List.set_cons_succ, uv, ih hj']
      have : dgt (d :: r) (j + 1) = dgt r j := by unfold dgt; simp
      rw [this, M_succ, Int.mul_add, ← Int.mul_assoc, Int.mul_comm 18446744073709551616 (M j)]
      omega
theorem Us.set_ {os : List Int} (h : Us os) (j : Nat) {x : Int} (h0 : U x) : Us (os.set j x) := fun d hd => by
  rcases List.mem_or_eq_of_mem_set hd with h' | rfl
  · exact h d h'
  · exact h0
theorem Us.dgt {os : List Int} (h : Us os) (j : Nat) : U (dgt os j) := by
  rcases Nat.lt_or_ge j os.length with hi | hi
  · rw [dgt_lt hi]; exact h.at_ hi
  · rw [dgt_ge hi]; unfold U; omega
theorem zeros_us (k : Nat) : Us (List.replicate k 0) := fun d hd => by rw [List.eq_of_mem_replicate hd]; unfold U; omega
theorem zeros_uv (k : Nat) : uv (List.replicate k 0) = 0 := by
  induction k with
  | zero => rfl
  | succ k ih => simp [List.replicate_succ, uv, ih]
end Go.Proofs.YthmkllpdkcmccaaGreatDoor
/- Plain mathematics: sums, differences and products of 64-bit words as two words. No program is named here. -/
namespace Go.Proofs.YthmkllpdkcmccaaGreatDoor
open Go

/-- The lower word of a number. -/
def lo (n : Int) : Int := n % 18446744073709551616
/-- What is above the lower word. -/
def hi (n : Int) : Int := n / 18446744073709551616
/-- The borrow of a difference. -/
def bo (n : Int) : Int := 0 - n / 18446744073709551616
theorem U_lo (n : Int) : U (lo n) := by unfold U lo; omega
theorem wrap_lo (n : Int) : IntKind.u64.wrap n = lo n := wrap_u n
theorem lo_hi (n : Int) : lo n + hi n * 18446744073709551616 = n := by unfold lo hi; omega
theorem mod2 (c : Int) : 0 ≤ c % 2 ∧ c % 2 ≤ 1 := by omega
theorem hi_sum {a b c : Int} (ha : U a) (hb : U b) (h0 : 0 ≤ c) (h1 : c ≤ 1) : 0 ≤ hi (a + b + c) ∧ hi (a + b + c) ≤ 1 := by unfold U at *; unfold hi; omega
theorem bo_diff {a b c : Int} (ha : U a) (hb : U b) (h0 : 0 ≤ c) (h1 : c ≤ 1) : 0 ≤ bo (a - b - c) ∧ bo (a - b - c) ≤ 1 := by unfold U at *; unfold bo; omega
theorem bo_iff {a b c : Int} (ha : U a) (hb : U b) (h0 : 0 ≤ c) (h1 : c ≤ 1) : bo (a - b - c) = if a < b + c then 1 else 0 := by unfold U at *; unfold bo; split <;> omega
theorem prod_le {a b : Int} (ha : U a) (hb : U b) : 0 ≤ a * b ∧ a * b ≤ 340282366920938463426481119284349108225 := by
  unfold U at *
  refine ⟨Int.mul_nonneg ha.1 hb.1, ?_⟩
  have h1 : a * b ≤ 18446744073709551615 * b := Int.mul_le_mul_of_nonneg_right ha.2 hb.1
  omega
theorem U_hi_mulAdd {a b c d : Int} (ha : U a) (hb : U b) (hc : U c) (hd : U d) : U (hi (a * b + c + d)) := by
  have := prod_le ha hb; unfold U at *; unfold hi; omega
/-- MulAdd's steps. -/
theorem mulAdd_lo (p c d : Int) : lo (lo (lo p + c) + d) = lo (p + c + d) := by unfold lo; omega
theorem mulAdd_hi {p c d : Int} (h0 : 0 ≤ p) (h1 : p ≤ 340282366920938463426481119284349108225) (hc : U c) (hd : U d) :
    lo (lo (hi p + hi (lo p + c)) + hi (lo (lo p + c) + d)) = hi (p + c + d) := by unfold U at *; unfold lo hi; omega
theorem neg_wrap {a : Int} (h : S a) (h0 : a < 0) : IntKind.u64.wrap a = a + 18446744073709551616 := by rw [wrap_u]; unfold S at h; omega
theorem nonneg_wrap {a : Int} (h : S a) (h0 : 0 ≤ a) : IntKind.u64.wrap a = a := by rw [wrap_u]; unfold S at h; omega
theorem abs_wrap {a : Int} (h : S a) (h0 : a < 0) : IntKind.u64.wrap (-IntKind.u64.wrap a) = -a := by rw [neg_wrap h h0, wrap_u]; unfold S at h; omega
end Go.Proofs.YthmkllpdkcmccaaGreatDoor
/- Words for memory: a slice that reads as a list of numbers, kept over what a call lays; rows of the call's own. No program is named here. -/
namespace Go.Proofs.YthmkllpdkcmccaaGreatDoor
open Go.RowKit
set_option maxRecDepth 100000
set_option linter.unusedVariables false
set_option linter.unusedSimpArgs false

theorem lt_of_cell {w : World} {b o : Nat} {v : Value} (h : w.cell? ⟨b, o, none⟩ = some v) : b < w.heap.size := by
  rcases Nat.lt_or_ge b w.heap.size with h' | h'
  · exact h'
  · rw [World.cell?] at h
    simp [Array.getElem?_eq_none h'] at h
/-- The cells behind a slice's address are the numbers of ds; they lie in a block that S admits. -/
def SlR (w : World) (S : Nat → Prop) (k : IntKind) (A : Option Addr) (ds : List Int) : Prop :=
  0 < ds.length → ∃ b off, A = some ⟨b, off, none⟩ ∧ S b ∧ ∀ j d, ds[j]? = some d → w.cell? ⟨b, off + j, none⟩ = some (.int k d)
theorem SlR.nil_ (w : World) (S : Nat → Prop) (k : IntKind) (A : Option Addr) : SlR w S k A [] := fun h => absurd h (by simp)
theorem SlR.at_ {w : World} {S : Nat → Prop} {k : IntKind} {A : Option Addr} {ds : List Int} (h : SlR w S k A ds) {j : Nat} (hj : j < ds.length) :
    ∃ b off, A = some ⟨b, off, none⟩ ∧ S b ∧ w.cell? ⟨b, off + j, none⟩ = some (.int k (ds[j]'hj)) := by
  obtain ⟨b, off, e, hb, hc⟩ := h (by omega)
  exact ⟨b, off, e, hb, hc j _ (List.getElem?_eq_getElem hj)⟩
theorem SlR.keep {w w' : World} {S : Nat → Prop} {k : IntKind} {A : Option Addr} {ds : List Int} (h : SlR w S k A ds) (hk : ∀ b o, S b → b < w.heap.size → w'.cell? ⟨b, o, none⟩ = w.cell? ⟨b, o, none⟩) : SlR w' S k A ds := fun hl => by
  obtain ⟨b, off, e, hS, hc⟩ := h hl
  exact ⟨b, off, e, hS, fun j d hd => (hk b _ hS (lt_of_cell (hc j d hd))).trans (hc j d hd)⟩
/-- Into a later world. -/
theorem SlR.next {w w' : World} {S : Nat → Prop} {k : IntKind} {A : Option Addr} {ds : List Int} (h : SlR w S k A ds) (hb : Below w.heap.size w w') : SlR w' S k A ds :=
  h.keep fun b o _ hlt => hb.cell (p := ⟨b, o, none⟩) hlt
theorem SlR.imp {w : World} {S T : Nat → Prop} {k : IntKind} {A : Option Addr} {ds : List Int} (h : SlR w S k A ds) (hST : ∀ b, S b → T b) : SlR w T k A ds := fun hl => by
  obtain ⟨b, off, e, hS, hc⟩ := h hl
  exact ⟨b, off, e, hST b hS, hc⟩
theorem SlR.set_ {w : World} {S : Nat → Prop} {k : IntKind} {A : Option Addr} {ds : List Int} (h : SlR w S k A ds) (b o : Nat) (v : Value) (hne : ¬ S b) : SlR (w.setCell ⟨b, o, none⟩ v) S k A ds :=
  h.keep fun c p hS _ => World.cell?_of_block (Below.heap_setCell w ⟨b, o, none⟩ v c (fun e => hne (by subst e; exact hS)))
theorem SlR.lt {w : World} {S : Nat → Prop} {k : IntKind} {A : Option Addr} {ds : List Int} (h : SlR w S k A ds) : SlR w (fun b => S b ∧ b < w.heap.size) k A ds := fun hl => by
  obtain ⟨b, off, e, hS, hc⟩ := h hl
  exact ⟨b, off, e, ⟨hS, lt_of_cell (hc 0 _ (List.getElem?_eq_getElem hl))⟩, hc⟩
theorem SlR.take {w : World} {S : Nat → Prop} {k : IntKind} {A : Option Addr} {ds : List Int} (h : SlR w S k A ds) (n : Nat) : SlR w S k A (ds.take n) := fun hl => by
  obtain ⟨b, off, e, hlt, hc⟩ := h (by rw [List.length_take] at hl; omega)
  refine ⟨b, off, e, hlt, fun j d hd => hc j d ?_⟩
  rw [List.getElem?_take] at hd
  split at hd
  · exact hd
  · cases hd
theorem below_drewN' {B : Nat} {a w : World} (h : Below B a w) (n : Nat) : Below B a (w.drewN n) := ⟨h.os, h.tape, h.output, h.size, h.block⟩
/-- What a row of the call's own reads as. -/
theorem own_form {w : World} {base : Nat} {e : TypeId} {k : IntKind} {v : Value} {n : Nat} {ds : List Int} (h : w.ownsRow base e 1 v n (ds.map (Value.int k))) :
    n = ds.length ∧ ∃ A c, v = .slice A ds.length c ∧ ds.length ≤ c ∧ c ≤ maxLen ∧ SlR w (fun b => base ≤ b) k A ds := by
  have hn : n = ds.length := by have := h.1; simpa using this.symm
  subst hn
  refine ⟨rfl, ?_⟩
  rcases h.2 with ⟨rfl, h0⟩ | ⟨g, cap, cur, rfl, hg, hh, hc, hm, hs, ht⟩
  · exact ⟨none, 0, by rw [h0], by omega, by unfold maxLen; omega, fun hl => by omega⟩
  · refine ⟨some ⟨g, 0, none⟩, cap, rfl, hc, hm, fun _ => ⟨g, 0, rfl, hg, fun j d hd => ?_⟩⟩
    have hj : j < ds.length := by
      rcases Nat.lt_or_ge j ds.length with hlt | hge
      · exact hlt
      · rw [List.getElem?_eq_none hge] at hd; cases hd
    rw [Nat.zero_add, h.cellAt j (by omega), List.getElem?_map, hd]; rfl
theorem cell_below {W w1 : World} (hb : Below W.heap.size W w1) : (∀ b o, b < W.heap.size → w1.cell? ⟨b, o, none⟩ = W.cell? ⟨b, o, none⟩) ∧ (∀ b o, b < W.heap.size → w1.frozen? ⟨b, o, none⟩ = W.frozen? ⟨b, o, none⟩) :=
  ⟨fun b o h => hb.cell (p := ⟨b, o, none⟩) h, fun b o h => hb.frozen (p := ⟨b, o, none⟩) h⟩
/-- The one cell that an append of one element takes. -/
theorem one_cell (w : World) (v : Value) (t : TypeId) : ∀ j u, [v][j]? = some u → (w.alloc (.cells #[v] t)).cell? ((⟨w.heap.size, 0, none⟩ : Addr).add j) = some u := by
  intro j u hj
  match j, hj with
  | 0, hj => simp at hj; subst hj; simp [Addr.add, go_sem]
theorem one_oneCell (k : IntKind) (n : Int) : ∀ u ∈ [Value.int k n], u.oneCell' = true := by intro u hu; simp at hu; subst hu; rfl
/-- A row of numbers that the call owns. -/
def OwnK (w : World) (base : Nat) (e : TypeId) (k : IntKind) (v : Value) (os : List Int) : Prop := w.ownsRow base e 1 v os.length (os.map (Value.int k))
theorem OwnK.nil_ (w : World) (base : Nat) (e : TypeId) (k : IntKind) : OwnK w base e k (.slice none 0 0) [] := World.ownsRow_nil _ _ _ _
theorem OwnK.form {w : World} {base : Nat} {e : TypeId} {k : IntKind} {v : Value} {os : List Int} (h : OwnK w base e k v os) :
    ∃ A c, v = .slice A os.length c ∧ os.length ≤ c ∧ c ≤ maxLen ∧ SlR w (fun b => base ≤ b) k A os := (own_form h).2
/-- append of one number onto a row of the call's own. -/
theorem wp_app1 {P : Program} {w : World} {ops : Array Oper} {rest : List Oper} {o : Oper} {a : Act} {Q : Exit → Act → World → Prop} (hgd : o.guard = none) (s x : Operand) (t : TypeId)
    (ho : o.op = .call { callee := .builtin .append, args := #[s, x], argTypes := #[t, t] })
    (base : Nat) (e : TypeId) (k : IntKind) (i : TypeInfo) (z : Value) (ht : P.underlying t = some (.slice e)) (hi : P.info? e = some i) (hz : i.zero = some z) (hsize : i.size = 1) (hby : i.bytes = 8) (hzs : z.cells.size = 1)
    (v : Value) (os : List Int) (n : Int) (hs : a.eval s = v) (hown : OwnK w base e k v os) (hx : a.eval x = .slice (some ⟨w.heap.size, 0, none⟩) 1 1)
    (hlen : os.length ≤ 1000000000) (hbase : base ≤ w.heap.size)
    (h : ∀ v' w', OwnK w' base e k v' (os ++ [n]) → Below base w w' → wpList P ops Q rest (a.put o.dst v') w') : wpList P ops Q (o :: rest) a (w.alloc (.cells #[.int k n] e)) := by
  refine wpList_append_own _ hgd s x t ho base e i z 1 8 ht hi hz hsize hby hzs (by decide) v os.length (os.map (Value.int k)) hs (World.ownsRow.alloc hown _) ⟨w.heap.size, 0, none⟩ 1 1 [.int k n] hx rfl (one_cell _ _ _) (one_oneCell _ _)
    (by unfold maxLen; omega) (by omega) (by simp; omega) fun v' w' h1 h2 _ => h v' w' ?_ ?_
  · unfold OwnK
    rw [List.length_append, List.map_append]
    exact h1
  · have hb : Below base w (w.alloc (.cells #[.int k n] e)) := (Below.refl _ _).alloc hbase _
    exact hb.grown h2 (by simp; omega) (fun g hg => (World.ownsRow.lt hown g hg).1)
end Go.Proofs.YthmkllpdkcmccaaGreatDoor
/- More words for memory: cells of a row of the call's own, stores into it, make. No program is named here. -/
namespace Go.Proofs.YthmkllpdkcmccaaGreatDoor
open Go.RowKit
set_option maxRecDepth 100000
set_option linter.unusedVariables false
set_option linter.unusedSimpArgs false

/-- What is known of the value of a row of n numbers. -/
theorem OwnK.slice_ {w : World} {base : Nat} {e : TypeId} {k : IntKind} {v : Value} {os : List Int} {n : Nat} (h : OwnK w base e k v os) (hn : os.length = n) :
    ∃ A c, v = .slice A n c ∧ n ≤ c ∧ (0 < n → ∃ g, A = some ⟨g, 0, none⟩ ∧ base ≤ g) := by
  subst hn
  rcases h.2 with ⟨rfl, h0⟩ | ⟨g, cap, cur, rfl, hg, _, hc, _⟩
  · exact ⟨none, 0, by rw [h0], by omega, fun h => by omega⟩
  · exact ⟨some ⟨g, 0, none⟩, cap, rfl, hc, fun _ => ⟨g, rfl, hg⟩⟩
theorem OwnK.cell_ {w : World} {base g c n : Nat} {e : TypeId} {k : IntKind} {os : List Int} (h : OwnK w base e k (.slice (some ⟨g, 0, none⟩) n c) os) (hn : os.length = n) {j : Nat} (hj : j < n) :
    w.cell? ⟨g, j, none⟩ = some (.int k (dgt os j)) := by
  subst hn
  unfold OwnK at h
  rw [World.ownsRow.cellAt h j (by omega), List.getElem?_map, List.getElem?_eq_getElem hj, dgt_lt hj]; rfl
theorem OwnK.frozen_ {w : World} {base g c n : Nat} {e : TypeId} {k : IntKind} {os : List Int} (h : OwnK w base e k (.slice (some ⟨g, 0, none⟩) n c) os) (hn : os.length = n) (j : Nat) : w.frozen? ⟨g, j, none⟩ = false := by
  subst hn; exact World.ownsRow.frozenAt h j
theorem OwnK.set_ {w : World} {base g c n : Nat} {e : TypeId} {k : IntKind} {os : List Int} (h : OwnK w base e k (.slice (some ⟨g, 0, none⟩) n c) os) (hn : os.length = n) (j : Nat) (x : Int) :
    OwnK (w.setCell ⟨g, j, none⟩ (.int k x)) base e k (.slice (some ⟨g, 0, none⟩) n c) (os.set j x) ∧ (os.set j x).length = n := by
  subst hn
  refine ⟨?_, by simp⟩
  unfold OwnK
  rw [List.length_set, List.map_set]
  exact (World.ownsRow.stored h j (.int k x)).1
/-- A value at one place replaced. -/
theorem ev_set {os : List Int} {j : Nat} (x : Int) (hj : j < os.length) : ev (os.set j x) = ev os + 65536 ^ j * (x - dgt os j) := by
  induction os generalizing j with
  | nil => simp at hj
  | cons d r ih =>
    cases j with
    | zero => simp [ev, dgt, List.set]; omega
    | succ j =>
      have hj' : j < r.length := by simpa using hj
      simp only [List.set_cons_succ, ev, ih hj']
      have : dgt (d :: r) (j + 1) = dgt r j := by unfold dgt; simp
      rw [this, Int.pow_succ, Int.mul_add, ← Int.mul_assoc, Int.mul_comm 65536 (65536 ^ j)]
      omega
theorem dgt_set {os : List Int} {j : Nat} (x : Int) (hj : j < os.length) (i : Nat) : dgt (os.set j x) i = if i = j then x else dgt os i := by
  unfold dgt
  by_cases h : i = j
  · subst h; simp [hj]
  · rw [if_neg h]; simp [List.getElem?_set_ne (Ne.symm h), List.getD_eq_getElem?_getD]
theorem Dg.set_ {os : List Int} (h : Dg os) (j : Nat) {x : Int} (h0 : 0 ≤ x) (h1 : x < 65536) : Dg (os.set j x) := fun d hd => by
  rcases List.mem_or_eq_of_mem_set hd with h' | rfl
  · exact h d h'
  · exact ⟨h0, h1⟩
/-- The columns' step of the product. -/
theorem mul_step {os da db : List Int} {i j : Nat} {c s P : Int} (hp : i + j < os.length) (hs : s = dgt os (i + j) + dgt da i * dgt db j + c)
    (h : ev os + 65536 ^ (i + j) * c = P + 65536 ^ i * (dgt da i * ev (db.take j))) :
    ev (os.set (i + j) (s % 65536)) + 65536 ^ (i + (j + 1)) * (s / 65536) = P + 65536 ^ i * (dgt da i * ev (db.take (j + 1))) := by
  rw [ev_set _ hp, ev_take_dgt, Int.mul_add, Int.mul_add, ← Int.add_assoc P, ← h, ← Nat.add_assoc, Int.pow_succ, Int.mul_assoc, Int.mul_sub]
  have e1 : 65536 ^ (i + j) * (s % 65536) + 65536 ^ (i + j) * (65536 * (s / 65536)) = 65536 ^ (i + j) * s := by rw [← Int.mul_add]; congr 1; omega
  have e2 : (65536 : Int) ^ i * (dgt da i * (65536 ^ j * dgt db j)) = 65536 ^ (i + j) * (dgt da i * dgt db j) := by
    rw [Int.pow_add, ← Int.mul_assoc (dgt da i), Int.mul_comm (dgt da i) (65536 ^ j)]
    simp only [Int.mul_assoc]
  have e3 : 65536 ^ (i + j) * s = 65536 ^ (i + j) * dgt os (i + j) + 65536 ^ (i + j) * (dgt da i * dgt db j) + 65536 ^ (i + j) * c := by rw [hs, Int.mul_add, Int.mul_add]
  omega
theorem mul_row {os da db : List Int} {i : Nat} {c : Int} (hp : i + db.length < os.length) (h0 : dgt os (i + db.length) = 0)
    (h : ev os + 65536 ^ (i + db.length) * c = ev (da.take i) * ev db + 65536 ^ i * (dgt da i * ev (db.take db.length))) :
    ev (os.set (i + db.length) c) = ev (da.take (i + 1)) * ev db := by
  rw [ev_set _ hp, h0, Int.sub_zero, h, List.take_length, ev_take_dgt, Int.add_mul, Int.mul_assoc]
theorem prod_digits {a b c d : Int} (ha : 0 ≤ a ∧ a < 65536) (hb : 0 ≤ b ∧ b < 65536) (hc : 0 ≤ c ∧ c < 65536) (hd : 0 ≤ d ∧ d < 65536) : 0 ≤ a * b ∧ a * b ≤ 4294836225 ∧ 0 ≤ c + a * b + d ∧ c + a * b + d < 4294967296 := by
  have h1 : 0 ≤ a * b := Int.mul_nonneg ha.1 hb.1
  have h2 : a * b ≤ 65535 * 65535 := Int.mul_le_mul (by omega) (by omega) hb.1 (by decide)
  omega
end Go.Proofs.YthmkllpdkcmccaaGreatDoor
/- More words for memory: append of a list of numbers onto a row of the call's own. No program is named here. -/
namespace Go.Proofs.YthmkllpdkcmccaaGreatDoor
open Go.RowKit
set_option maxRecDepth 100000
set_option linter.unusedVariables false
set_option linter.unusedSimpArgs false

theorem addr_add0 (b off j : Nat) : (⟨b, off, none⟩ : Addr).add j = ⟨b, off + j, none⟩ := by
  unfold Addr.add; split
  · next h => subst h; rfl
  · rfl
end Go.Proofs.YthmkllpdkcmccaaGreatDoor
/- Boxes that may be written. No program is named here. -/
namespace Go.Proofs.YthmkllpdkcmccaaGreatDoor
open Go.RowKit
set_option maxRecDepth 100000
set_option linter.unusedVariables false
set_option linter.unusedSimpArgs false

/-- A box of n cells that may be written. -/
def HasBox (w : World) (B n : Nat) : Prop := ∀ i, i < n → (∃ v, w.cell? ⟨B, i, none⟩ = some v) ∧ w.frozen? ⟨B, i, none⟩ = false
theorem HasBox.next {w w1 : World} {B n : Nat} (h : HasBox w B n) (hb : Below w.heap.size w w1) : HasBox w1 B n := fun i hi => by
  obtain ⟨⟨v, hv⟩, hf⟩ := h i hi
  have hl := lt_of_cell hv
  exact ⟨⟨v, (hb.cell (p := ⟨B, i, none⟩) hl).trans hv⟩, (hb.frozen (p := ⟨B, i, none⟩) hl).trans hf⟩
theorem HasBox.set_ {w : World} {B n : Nat} (h : HasBox w B n) (p : Addr) (x : Value) : HasBox (w.setCell p x) B n := fun i hi => by
  obtain ⟨⟨v, hv⟩, hf⟩ := h i hi
  refine ⟨?_, (World.frozen?_setCell _ _ _ _).trans hf⟩
  obtain ⟨v', hv'⟩ := cell?_setCell_some (w := w) (p := p) (x := x) (q := ⟨B, i, none⟩) (v := v) hv
  exact ⟨v', hv'⟩
end Go.Proofs.YthmkllpdkcmccaaGreatDoor
/- Texts as lists of bytes. No program is named here. -/
namespace Go.Proofs.YthmkllpdkcmccaaGreatDoor
open Go

/-- A text of bytes. -/
def bs (l : List UInt8) : ByteArray := ⟨l.toArray⟩
end Go.Proofs.YthmkllpdkcmccaaGreatDoor
namespace Go.Proofs.YthmkllpdkcmccaaGreatDoor
open Go.RowKit
set_option maxRecDepth 100000
set_option linter.unusedVariables false
set_option linter.unusedSimpArgs false

theorem wrap_i64' {x : Int} (h1 : -9223372036854775808 ≤ x) (h2 : x < 9223372036854775808) : IntKind.i64.wrap x = x := by rw [wrap_s]; omega
/-- A point. -/
structure Pt where
  x : Int
  y : Int
  deriving DecidableEq
def ptC (p : Pt) : List Value := [.int .i64 p.x, .int .i64 p.y]
theorem ptC_len (p : Pt) : (ptC p).length = 2 := rfl
/-- Points whose coordinates are numbers of 64 bits. -/
def SsP (l : List Pt) : Prop := ∀ p ∈ l, S p.x ∧ S p.y
/-- Twice the area of a triangle. -/
def detP (a b c : Pt) : Int := (b.x - a.x) * (c.y - a.y) - (b.y - a.y) * (c.x - a.x)
def sgnP (a b c : Pt) : Int := (detP a b c).sign
theorem sgn_in (a b c : Pt) : sgnP a b c = -1 ∨ sgnP a b c = 0 ∨ sgnP a b c = 1 := by
  unfold sgnP
  rcases Int.lt_trichotomy (detP a b c) 0 with h | h | h
  · exact .inl (Int.sign_eq_neg_one_of_neg h)
  · rw [h]; exact .inr (.inl rfl)
  · exact .inr (.inr (Int.sign_eq_one_of_pos h))
/-- The vertex with an index. -/
def at_ (l : List Pt) (i : Nat) : Pt := l.getD i ⟨0, 0⟩
theorem at_lt {l : List Pt} {i : Nat} (h : i < l.length) : at_ l i = l[i] := by unfold at_; simp [h]
def nx (n i : Nat) : Nat := if i + 1 < n then i + 1 else 0
theorem nx_lt {n i : Nat} (h : 0 < n) : nx n i < n := by unfold nx; split <;> omega
theorem nx_mod {n i : Nat} (h : i < n) : (i + 1) % n = nx n i := by
  unfold nx
  by_cases h1 : i + 1 < n
  · rw [if_pos h1, Nat.mod_eq_of_lt h1]
  · rw [if_neg h1, show i + 1 = n by omega, Nat.mod_self]
def isP (l : List Pt) : Bool := decide (3 ≤ l.length) && decide (l.length ≤ 64)
theorem isP_iff (l : List Pt) : isP l = true ↔ 3 ≤ l.length ∧ l.length ≤ 64 := by unfold isP; simp
def side (l : List Pt) (i : Nat) (p : Pt) : Int := sgnP (at_ l i) (at_ l (nx l.length i)) p
def orP (l : List Pt) : Int := if isP l then sgnP (at_ l 0) (at_ l 1) (at_ l 2) else 0
def good (l : List Pt) (s : Int) : Prop := ∀ i, i < l.length → ∀ j, j < l.length → j ≠ i → j ≠ nx l.length i → side l i (at_ l j) = s
instance (l : List Pt) (s : Int) : Decidable (good l s) := by unfold good; infer_instance
def validP (l : List Pt) : Bool := isP l && decide (orP l ≠ 0) && decide (good l (orP l))
theorem or_side {l : List Pt} (h : isP l = true) : orP l = side l 0 (at_ l 2) := by
  have := (isP_iff l).1 h
  unfold orP side nx
  rw [if_pos h, if_pos (by omega)]
theorem or_good {l : List Pt} {s : Int} (h : isP l = true) (hg : good l s) : orP l = s := by
  have hn := (isP_iff l).1 h
  rw [or_side h]
  exact hg 0 (by omega) 2 (by omega) (by omega) (by unfold nx; rw [if_pos (by omega)]; omega)
theorem or_in (l : List Pt) : orP l = -1 ∨ orP l = 0 ∨ orP l = 1 := by
  unfold orP
  split
  · exact sgn_in _ _ _
  · exact .inr (.inl rfl)
theorem valid_iff (l : List Pt) : validP l = true ↔ isP l = true ∧ ∃ s, s ≠ 0 ∧ good l s := by
  unfold validP
  simp only [Bool.and_eq_true, decide_eq_true_eq]
  constructor
  · rintro ⟨⟨h1, h2⟩, h3⟩; exact ⟨h1, _, h2, h3⟩
  · rintro ⟨h1, s, h2, h3⟩; rw [or_good h1 h3]; exact ⟨⟨h1, h2⟩, h3⟩
/-- The position of a point. -/
def minL (L : List Int) : Int := L.foldl min 1
theorem foldl_min (L : List Int) : ∀ a : Int, L.foldl min a ≤ a ∧ (∀ x ∈ L, L.foldl min a ≤ x) ∧ (L.foldl min a = a ∨ L.foldl min a ∈ L) := by
  induction L with
  | nil => intro a; exact ⟨Int.le_refl _, fun x h => (by cases h), .inl rfl⟩
  | cons y L ih =>
    intro a
    obtain ⟨h1, h2, h3⟩ := ih (min a y)
    rw [List.foldl_cons]
    refine ⟨by omega, fun x hx => ?_, ?_⟩
    · rcases List.mem_cons.1 hx with rfl | hx
      · omega
      · exact h2 x hx
    · rcases h3 with h3 | h3
      · by_cases e : a ≤ y
        · left; rw [h3]; omega
        · right; rw [h3, show min a y = y by omega]; simp
      · right; simp [h3]
theorem minL_eq {L : List Int} {m : Int} (h1 : m ≤ 1) (h2 : ∀ x ∈ L, m ≤ x) (h3 : m = 1 ∨ m ∈ L) : minL L = m := by
  obtain ⟨k1, k2, k3⟩ := foldl_min L 1
  unfold minL
  rcases h3 with h3 | h3
  · rcases k3 with k3 | k3
    · omega
    · have := h2 _ k3; omega
  · have := k2 m h3
    rcases k3 with k3 | k3
    · omega
    · have := h2 _ k3; omega
def sides (l : List Pt) (p : Pt) (k : Nat) : List Int := (List.range k).map fun i => orP l * side l i p
def locP (l : List Pt) (p : Pt) : Int := if isP l then minL (sides l p l.length) else -1
theorem mem_sides {l : List Pt} {p : Pt} {k : Nat} {x : Int} : x ∈ sides l p k ↔ ∃ i, i < k ∧ orP l * side l i p = x := by unfold sides; simp [List.mem_map]
theorem minL_snoc (L : List Int) (x : Int) : minL (L ++ [x]) = min (minL L) x := by unfold minL; rw [List.foldl_append]; rfl
theorem sides_succ (l : List Pt) (p : Pt) (k : Nat) : sides l p (k + 1) = sides l p k ++ [orP l * side l k p] := by unfold sides; rw [List.range_succ]; simp
end Go.Proofs.YthmkllpdkcmccaaGreatDoor
