/-
  Contracts of package limb in terms of the numbers, for integers that are given by their numbers.
-/
import Derived.Test.YtkdiglabjcfjfaaDoorLaw3c
namespace Go.Proofs.YtkdiglabjcfjfaaDoor
open Go.RowKit

/-- The slice of k words is the integer of the number z. -/
structure ArgN (w : World) (A : Option Addr) (c k : Nat) (z : Int) : Prop where
  sl : SlR w (fun _ => True) .u64 A (limbs k z)
  cap : k ≤ c
theorem ArgN.next {w w' : World} {A : Option Addr} {c k : Nat} {z : Int} (h : ArgN w A c k z) (hb : Below w.heap.size w w') : ArgN w' A c k z := ⟨h.sl.next hb, h.cap⟩
theorem ArgN.drewN_ {w : World} {A : Option Addr} {c k : Nat} {z : Int} (h : ArgN w A c k z) (n : Nat) : ArgN (w.drewN n) A c k z := ⟨h.sl.drewN_ n, h.cap⟩
theorem ArgN.arg {w : World} {A : Option Addr} {c k : Nat} {z : Int} (h : ArgN w A c k z) : Arg w A c (limbs k z) := ⟨h.sl, limbs_us _ _, by rw [limbs_length]; exact h.cap⟩
def GivesN (w : World) (k : Nat) (z : Int) (e : Ending) (w' : World) : Prop := ∃ A c, e = .returned (.slice A k c) ∧ ArgN w' A c k z ∧ Below w.heap.size w w'
theorem GivesU.n {w : World} {k : Nat} {z : Int} {e : Ending} {w' : World} (h : GivesU w (limbs k z) e w') : GivesN w k z e w' := by
  obtain ⟨A, c, he, hc, hs, hb⟩ := h
  rw [limbs_length] at he hc
  exact ⟨A, c, he, ⟨hs.imp fun _ _ => trivial, hc⟩, hb⟩
/-- The number z fits into k limbs. -/
def In (z : Int) (k : Nat) : Prop := -M k ≤ 2 * z ∧ 2 * z < M k
theorem In.sv {z : Int} {k : Nat} (h : In z k) : sv (limbs k z) = z := sv_limbs h.1 h.2
theorem limbFrom_n (x : Int) (n : Nat) (w : World) (hw : Wts w) (hx : S x) (h1 : 1 ≤ n) (h8 : n ≤ 8) : Calls Tryd.prog 12 #[.int .i64 x, .int .i64 n] w (GivesN w n x) :=
  (limbFrom_yes x n w hw hx h1 h8).mono fun _ _ h => h.n
theorem limbMul_n (A B : Option Addr) (c d n m k : Nat) (X Y : Int) (w : World) (hw : Wts w) (ha : ArgN w A c n X) (hb : ArgN w B d m Y) (hX : In X n) (hY : In Y m) (h1 : 1 ≤ n) (h2 : 1 ≤ m) (h8 : n + m ≤ 8) (hk : n + m = k) :
    Calls Tryd.prog 26 #[.slice A n c, .slice B m d] w (GivesN w k (X * Y)) := by
  have h := limbMul_yes A B c d (limbs n X) (limbs m Y) w hw ha.arg hb.arg (by rw [limbs_length]; exact h1) (by rw [limbs_length]; exact h2) (by rw [limbs_length, limbs_length]; exact h8)
  rw [hX.sv, hY.sv, limbs_length, limbs_length, hk] at h
  exact h.mono fun _ _ h => h.n
theorem limbAdd_n (A B : Option Addr) (c d n : Nat) (X Y : Int) (w : World) (hw : Wts w) (ha : ArgN w A c n X) (hb : ArgN w B d n Y) (hX : In X n) (hY : In Y n) (h1 : 1 ≤ n) (h8 : n ≤ 8) :
    Calls Tryd.prog 20 #[.slice A n c, .slice B n d] w (GivesN w n (X + Y)) := by
  have h := limbAdd_yes A B c d (limbs n X) (limbs n Y) w hw ha.arg hb.arg (by rw [limbs_length]; exact h1) (by rw [limbs_length]; exact h8) (by rw [limbs_length, limbs_length])
  rw [hX.sv, hY.sv, limbs_length, limbs_length] at h
  exact h.mono fun _ _ h => h.n
theorem limbSub_n (A B : Option Addr) (c d n : Nat) (X Y : Int) (w : World) (hw : Wts w) (ha : ArgN w A c n X) (hb : ArgN w B d n Y) (hX : In X n) (hY : In Y n) (h1 : 1 ≤ n) (h8 : n ≤ 8) :
    Calls Tryd.prog 22 #[.slice A n c, .slice B n d] w (GivesN w n (X - Y)) := by
  have h := limbSub_yes A B c d (limbs n X) (limbs n Y) w hw ha.arg hb.arg (by rw [limbs_length]; exact h1) (by rw [limbs_length]; exact h8) (by rw [limbs_length, limbs_length])
  rw [hX.sv, hY.sv, limbs_length, limbs_length] at h
  exact h.mono fun _ _ h => h.n
theorem limbExtend_n (A : Option Addr) (c n m : Nat) (X : Int) (w : World) (hw : Wts w) (ha : ArgN w A c n X) (hX : In X n) (h1 : 1 ≤ n) (h8 : n ≤ 8) (h2 : 1 ≤ m) (h3 : m ≤ 8) :
    Calls Tryd.prog 13 #[.slice A n c, .int .i64 m] w (GivesN w m X) := by
  have h := limbExtend_yes A c (limbs n X) m w hw ha.arg (by rw [limbs_length]; exact h1) (by rw [limbs_length]; exact h8) h2 h3
  rw [hX.sv, limbs_length] at h
  exact h.mono fun _ _ h => h.n
theorem same_n (A B : Option Addr) (c d k : Nat) (X Y : Int) (w : World) (ha : ArgN w A c k X) (hb : ArgN w B d k Y) (hk : k ≤ 8) (h : X = Y) :
    Calls Tryd.prog 14 #[.slice A k c, .slice B k d] w fun e w' => e = .returned (.bool true) ∧ ∃ n, w' = w.drewN n := by
  have h := same_t A B c d (limbs k X) (limbs k Y) _ _ w ha.sl hb.sl (by rw [limbs_length]; omega) (by rw [h])
  rw [limbs_length, limbs_length] at h
  exact h
theorem M_vals : M 2 = 340282366920938463463374607431768211456 ∧ M 4 = 115792089237316195423570985008687907853269984665640564039457584007913129639936 ∧ M 6 = 39402006196394479212279040100143613805079739270465446667948293404245721771497210611414266254884915640806627990306816 := by decide
/-- Products of two and three words. -/
theorem prod2 {x y : Int} (hx : S x) (hy : S y) : -85070591730234615865843651857942052864 ≤ x * y ∧ x * y ≤ 85070591730234615865843651857942052864 := by
  unfold S at hx hy
  have h : (x * y).natAbs ≤ 9223372036854775808 * 9223372036854775808 := by
    rw [Int.natAbs_mul]
    exact Nat.mul_le_mul (by omega) (by omega)
  omega
end Go.Proofs.YtkdiglabjcfjfaaDoor
