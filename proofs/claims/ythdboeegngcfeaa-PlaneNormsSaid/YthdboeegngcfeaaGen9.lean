/-
  Floats and complex numbers that are whole, in the laws' words.
-/
import Derived.Test.YthdboeegngcfeaaBox
import Derived.Test.YthdboeegngcfeaaFl
import Derived.Laws.StructEq
import Derived.Laws.Cover2
import Derived.Laws.Cover3
import Derived.BigQuiet
import Derived.Deep.CutRange
import Derived.Deep.DeepCutAuto
import Derived.Deep.QuietTactic
import Derived.Deep.RegionLaw
import Derived.Deep.RegionWith
import Derived.Laws.CopyOwn
import Derived.Laws.Pointers
import Derived.Lib.Hide
import Derived.Lib.MinMax
import Derived.RegionTactic
import Derived.StillTactics
import Derived.WalkSpells
import Derived.Defers
import Derived.Recover
namespace Go.Proofs.Ythdboeegngcfeaa
open Go.RowKit
set_option maxRecDepth 100000
set_option linter.unusedVariables false
set_option linter.unusedSimpArgs false

/-- A float that is a whole number. -/
def FlI (n : Int) (v : Value) (_g : Gh) (_w : World) : Prop := ∃ r, v = .float .f64 r ∧ FI r n
/-- A complex number whose parts are whole. -/
def CxI (x y : Int) (v : Value) (_g : Gh) (_w : World) : Prop := ∃ r i, v = .complex .f64 r i ∧ FI r x ∧ FI i y
/-- A float that is a whole number, and no error. -/
def NrR (n : Int) (v : Value) (_g : Gh) (_w : World) : Prop := ∃ r, v = .tuple #[.float .f64 r, .int .i64 0] ∧ FI r n
theorem flI_firm (n : Int) : Firm (FlI n) := fun _ _ _ _ _ h _ => h
theorem cxI_firm (x y : Int) : Firm (CxI x y) := fun _ _ _ _ _ h _ => h
theorem nrR_firm (n : Int) : Firm (NrR n) := fun _ _ _ _ _ h _ => h
theorem flI_open {n : Int} {v : Value} {g : Gh} {w : World} (h : FlI n v g w) : ∃ r, v = .float .f64 r ∧ FI r n := h
theorem cxI_open {x y : Int} {v : Value} {g : Gh} {w : World} (h : CxI x y v g w) : ∃ r i, v = .complex .f64 r i ∧ FI r x ∧ FI i y := h
theorem nrR_open {n : Int} {v : Value} {g : Gh} {w : World} (h : NrR n v g w) : ∃ r, v = .tuple #[.float .f64 r, .int .i64 0] ∧ FI r n := h
theorem flI_fi {n : Int} {r : Nat} {g : Gh} {w : World} (h : FlI n (.float .f64 r) g w) : FI r n := by
  obtain ⟨r', e, h⟩ := h
  injection e with _ e
  rw [e]; exact h
theorem flI_mk {n : Int} {r : Nat} {g : Gh} {w : World} (h : FI r n) : FlI n (.float .f64 r) g w := ⟨r, rfl, h⟩
theorem cxI_mk {x y : Int} {r i : Nat} {g : Gh} {w : World} (h : FI r x) (k : FI i y) : CxI x y (.complex .f64 r i) g w := ⟨r, i, rfl, h, k⟩
/-- A bound on a number. -/
def Bd (n x : Int) : Prop := -n ≤ x ∧ x ≤ n
theorem Bd.add {n m x y : Int} (h : Bd n x) (k : Bd m y) : Bd (n + m) (x + y) := by unfold Bd at *; omega
theorem Bd.sub {n m x y : Int} (h : Bd n x) (k : Bd m y) : Bd (n + m) (x - y) := by unfold Bd at *; omega
theorem Bd.neg {n x : Int} (h : Bd n x) : Bd n (-x) := by unfold Bd at *; omega
theorem Bd.mul {n m x y : Int} (h : Bd n x) (k : Bd m y) : Bd (n * m) (x * y) := by
  have hn : 0 ≤ n := by unfold Bd at h; omega
  have hm : 0 ≤ m := by unfold Bd at k; omega
  have h1 : x.natAbs ≤ n.natAbs := by unfold Bd at h; omega
  have h2 : y.natAbs ≤ m.natAbs := by unfold Bd at k; omega
  have h3 := Nat.mul_le_mul h1 h2
  rw [← Int.natAbs_mul, ← Int.natAbs_mul] at h3
  have h4 : 0 ≤ n * m := Int.mul_nonneg hn hm
  unfold Bd
  omega
theorem Bd.wrap {n x : Int} (h : Bd n x) (hn : n ≤ 9223372036854775807) : IntKind.i64.wrap x = x := by unfold Bd at h; simp [IntKind.wrap, IntKind.bits, IntKind.signed]; split <;> omega
theorem Bd.s {n x : Int} (h : Bd n x) (hn : n ≤ 9223372036854775807) : S x := by unfold Bd at h; unfold S; omega
theorem Bd.le {n m x : Int} (h : Bd n x) (hn : n ≤ m) : Bd m x := by unfold Bd at *; omega
theorem fiB {n x : Int} (h : Bd n x) (hn : n ≤ 9007199254740992) : FI (floatOfInt .f64 x) x := by unfold Bd at h; exact fi_int (by omega) (by omega)
theorem addB {x y : Nat} {a b n m : Int} (hx : FI x a) (hy : FI y b) (h : Bd n a) (k : Bd m b) (hn : n + m ≤ 9007199254740992) : ∃ r, floatBits .add .f64 x y = some r ∧ FI r (a + b) := by
  have := h.add k; unfold Bd at this; exact fi_add hx hy (by omega) (by omega)
theorem subB {x y : Nat} {a b n m : Int} (hx : FI x a) (hy : FI y b) (h : Bd n a) (k : Bd m b) (hn : n + m ≤ 9007199254740992) : ∃ r, floatBits .sub .f64 x y = some r ∧ FI r (a - b) := by
  have := h.sub k; unfold Bd at this; exact fi_sub hx hy (by omega) (by omega)
theorem mulB {x y : Nat} {a b n m : Int} (hx : FI x a) (hy : FI y b) (h : Bd n a) (k : Bd m b) (hn : n * m ≤ 9007199254740992) : ∃ r, floatBits .mul .f64 x y = some r ∧ FI r (a * b) := by
  have := h.mul k; unfold Bd at this; exact fi_mul hx hy (by omega) (by omega)
/-- Sum, difference and product of complex numbers. -/
theorem cxSub {a b c d : Nat} {x y u v n m : Int} (h1 : FI a x) (h2 : FI b y) (h3 : FI c u) (h4 : FI d v) (k1 : Bd n x) (k2 : Bd n y) (k3 : Bd m u) (k4 : Bd m v) (hn : n + m ≤ 9007199254740992) :
    ∃ r i, cSumBits .sub .f64 a b c d = some (r, i) ∧ FI r (x - u) ∧ FI i (y - v) := by
  obtain ⟨r, e1, f1⟩ := subB h1 h3 k1 k3 hn
  obtain ⟨i, e2, f2⟩ := subB h2 h4 k2 k4 hn
  exact ⟨r, i, by unfold cSumBits; rw [e1, e2]; rfl, f1, f2⟩
theorem cxAdd {a b c d : Nat} {x y u v n m : Int} (h1 : FI a x) (h2 : FI b y) (h3 : FI c u) (h4 : FI d v) (k1 : Bd n x) (k2 : Bd n y) (k3 : Bd m u) (k4 : Bd m v) (hn : n + m ≤ 9007199254740992) :
    ∃ r i, cSumBits .add .f64 a b c d = some (r, i) ∧ FI r (x + u) ∧ FI i (y + v) := by
  obtain ⟨r, e1, f1⟩ := addB h1 h3 k1 k3 hn
  obtain ⟨i, e2, f2⟩ := addB h2 h4 k2 k4 hn
  exact ⟨r, i, by unfold cSumBits; rw [e1, e2]; rfl, f1, f2⟩
theorem cxMul {a b c d : Nat} {x y u v n m : Int} (h1 : FI a x) (h2 : FI b y) (h3 : FI c u) (h4 : FI d v) (k1 : Bd n x) (k2 : Bd n y) (k3 : Bd m u) (k4 : Bd m v) (hn : n * m + n * m ≤ 9007199254740992) :
    ∃ r i, cMulBits a b c d = some (r, i) ∧ FI r (x * u - y * v) ∧ FI i (x * v + y * u) := by
  have hnn : 0 ≤ n * m := by have := k1.mul k3; unfold Bd at this; omega
  obtain ⟨p, e1, f1⟩ := mulB h1 h3 k1 k3 (by omega)
  obtain ⟨q, e2, f2⟩ := mulB h2 h4 k2 k4 (by omega)
  obtain ⟨s, e3, f3⟩ := mulB h1 h4 k1 k4 (by omega)
  obtain ⟨t, e4, f4⟩ := mulB h2 h3 k2 k3 (by omega)
  obtain ⟨r, e5, f5⟩ := subB f1 f2 (k1.mul k3) (k2.mul k4) hn
  obtain ⟨i, e6, f6⟩ := addB f3 f4 (k1.mul k4) (k2.mul k3) hn
  refine ⟨r, i, ?_, f5, f6⟩
  unfold cMulBits
  simp [e1, e2, e3, e4, e5, e6]
/-- Tests. -/
theorem fl_eq {x y : Nat} {a b : Int} (hx : FI x a) (hy : FI y b) (h : a = b) : FloatKind.f64.format.order x y = some .eq := by
  subst h
  exact (fi_order hx hy).trans (by rw [Int.compare_eq_eq.2 rfl])
theorem fl_lt {x y : Nat} {a b : Int} (hx : FI x a) (hy : FI y b) (h : a < b) : FloatKind.f64.format.order x y = some .lt := (fi_order hx hy).trans (by rw [Int.compare_eq_lt.2 h])
theorem fl_gt {x y : Nat} {a b : Int} (hx : FI x a) (hy : FI y b) (h : b < a) : FloatKind.f64.format.order x y = some .gt := (fi_order hx hy).trans (by rw [Int.compare_eq_gt.2 h])
theorem fi_0 : FI 0 0 := ⟨false, 0, -1074, by decide +kernel, by rw [Int.zero_mul]; simp⟩
theorem fi_val {x : Nat} {s : Bool} {m : Nat} {i n : Int} (h : Ieee.double.read x = .number s m i) (e : n * 2 ^ (-i).toNat = (if s then -(m : Int) else m) * 2 ^ i.toNat) : FI x n := ⟨s, m, i, h, e⟩
theorem fi_25 : FI 4627730092099895296 25 := fi_val (s := false) (m := 7036874417766400) (i := -48) (by decide +kernel) (by decide)
theorem fi_1 : FI 4607182418800017408 1 := fi_val (s := false) (m := 4503599627370496) (i := -52) (by decide +kernel) (by decide)
/-- The opposite. -/
theorem fi_toI {x : Nat} {n : Int} (h : FI x n) (h1 : -9223372036854775808 ≤ n) (h2 : n ≤ 9223372036854775807) : floatToIntVal .f64 x .i64 = some n := by
  unfold floatToIntVal
  rw [fi_toInt h]
  exact if_pos ⟨h1, h2⟩
end Go.Proofs.Ythdboeegngcfeaa
