/-
  Contracts of packages mask and word, and the reference of layer 2.
-/
import Derived.Test.YtehnpmkolabiaaaDoorRows
import Derived.Test.YtehnpmkolabiaaaDoorBase
import Derived.WalkKit
import Derived.ProofKit
import Derived.Deep.QuietTactic
import Derived.BigQuiet
import Derived.Lib.Hide
import Derived.Shelf.Spec.BitsCarry
import Derived.Laws.MathBits
import Derived.Defers
import Derived.Recover
import Derived.RegionTactic
import Derived.Deep.RegionWith
import Derived.Deep.RegionHeld3
import Derived.StillTactics
import Derived.Deep.DeepCutAuto
import Derived.Deep.CutRange
import Derived.Deep.RegionLaw
import Derived.Laws.Pointers
import Derived.WalkSpells
/- Contracts of the functions of package mask, and of the references' Mask and Sign: what each returns, for every argument; the world is left but for draws. -/
namespace Go.Proofs.YtehnpmkolabiaaaDoor
open Go.RowKit
set_option maxRecDepth 100000
set_option linter.unusedVariables false
set_option linter.unusedSimpArgs false

/-- What the table of weights holds. -/
def WtsM (w : World) : Prop := w.cell? ⟨1, 0, none⟩ = some (.int .u64 top) ∧ w.cell? ⟨1, 1, none⟩ = some (.int .u64 ones)
/-- The program's other constant tables, with what they hold. -/
def seatTabs : List (Nat × List Value) := [(0, [.int .i64 1, .int .i64 0])]
def TabsAt (w : World) : Prop := ∀ p ∈ seatTabs, ∀ (i : Nat) (v : Value), p.2[i]? = some v → w.cell? ⟨p.1, i, none⟩ = some v
/-- The constant tables lie as the text says. -/
def Wts (w : World) : Prop := WtsM w ∧ TabsAt w
theorem Wts.drewN {w : World} (h : Wts w) (n : Nat) : Wts (w.drewN n) := h
theorem Wts.drew {w : World} (h : Wts w) : Wts w.drew := h
theorem sgn_u64 : IntKind.u64.signed = false := rfl
attribute [local go_sem] sgn_u64
theorem ret_int {k : IntKind} {a b : Int} (h : a = b) : Ending.returned (.int k a) = .returned (.int k b) := by rw [h]
theorem quiet_add {P : Program} {f : FuncId} {args : Array Value} {w : World} {a n : Nat} {v : Value}
    (h : Calls P f args (w.drewN (a + n)) fun e w' => e = .returned v ∧ ∃ m, w' = (w.drewN (a + n)).drewN m) :
    Calls P f args (w.drewN (a + n)) fun e w'' => e = .returned v ∧ ∃ m, w'' = w.drewN (a + m) :=
  h.mono fun _ _ ⟨he, m, hm⟩ => ⟨he, n + m, by rw [hm, World.drewN_drewN, Nat.add_assoc]⟩

theorem bit_any (a : Int) (ha : U a) (w : World) : Calls Tryd.prog 64 #[.int .u64 a] w fun e w' => e = .returned (.int .u64 (a % 2)) ∧ w' = w := by
  go_enter Tryd.func64, Tryd.ntmps64
  go_wp2
  go_ret
  exact ⟨ret_int (bit_raw ha), rfl⟩
theorem of_any (a : Int) (ha : U a) (w : World) (hw : Wts w) : Calls Tryd.prog 63 #[.int .u64 a] w fun e w' => e = .returned (.int .u64 (mk (decide (a % 2 = 1)))) ∧ ∃ n, w' = w.drewN n := by
  obtain ⟨⟨c0, c1⟩, -⟩ := hw
  go_enter Tryd.func63, Tryd.ntmps63
  go_wp2
  go_quiet ((go_at_call 64; exact Calls.quiet_of_same (bit_any _ ha _)))
  go_wp2
  go_ret
  exact ⟨ret_int (of_raw a), nq, rfl⟩
theorem U_shr63 {a : Int} (h : U a) : U (a / 9223372036854775808) := by unfold U at *; omega
theorem less_any (a b : Int) (ha : U a) (hb : U b) (w : World) (hw : Wts w) : Calls Tryd.prog 59 #[.int .u64 a, .int .u64 b] w fun e w' => e = .returned (.int .u64 (mk (decide (a < b)))) ∧ ∃ n, w' = w.drewN n := by
  go_enter Tryd.func59, Tryd.ntmps59
  go_wp2_with (fail)
  refine (of_any _ ?_ _ hw).mono ?_
  · apply U_shr63
    apply U_or (U_and (U_xor _ ha) hb) (U_and (U_xor _ (U_xor ha hb)) (U_wrap _)) <;> (unfold U; decide)
  rintro e w' ⟨rfl, n, rfl⟩
  go_wp2
  go_ret
  exact ⟨ret_int (by rw [less_raw ha hb]), n, rfl⟩
theorem U_one : U 1 := by unfold U; omega
theorem U_zero : U 0 := by unfold U; omega
theorem zero_any (a : Int) (ha : U a) (w : World) (hw : Wts w) : Calls Tryd.prog 41 #[.int .u64 a] w fun e w' => e = .returned (.int .u64 (mk (decide (a = 0)))) ∧ ∃ n, w' = w.drewN n := by
  go_enter Tryd.func41, Tryd.ntmps41
  go_wp2_with (fail)
  refine (less_any _ _ ha U_one _ hw).mono ?_
  rintro e w' ⟨rfl, n, rfl⟩
  go_wp2
  go_ret
  exact ⟨ret_int (by congr 1; rw [decide_eq_decide]; unfold U at ha; omega), n, rfl⟩
theorem equal_any (a b : Int) (ha : U a) (hb : U b) (w : World) (hw : Wts w) : Calls Tryd.prog 32 #[.int .u64 a, .int .u64 b] w fun e w' => e = .returned (.int .u64 (mk (decide (a = b)))) ∧ ∃ n, w' = w.drewN n := by
  go_enter Tryd.func32, Tryd.ntmps32
  go_wp2_with (fail)
  refine (zero_any _ (U_xor ha hb) _ hw).mono ?_
  rintro e w' ⟨rfl, n, rfl⟩
  go_wp2
  go_ret
  exact ⟨ret_int (by rw [xor_zero ha hb]), n, rfl⟩
theorem U_bit (a : Int) : U (a % 2) := by unfold U; omega
theorem sign_any (n z : Int) (hn : U n) (hz : U z) (w : World) (hw : Wts w) : Calls Tryd.prog 49 #[.int .u64 n, .int .u64 z] w fun e w' => e = .returned (.int .i64 (sgn3 n z)) ∧ ∃ k, w' = w.drewN k := by
  go_enter Tryd.func49, Tryd.ntmps49
  go_wp2_with (fail)
  refine (of_any _ hn _ hw).mono ?_
  rintro e w' ⟨rfl, k, rfl⟩
  go_wp2_with (fail)
  refine (bit_any _ (U_xor (by unfold U; decide) hz) _).mono ?_
  rintro e w' ⟨rfl, rfl⟩
  go_wp2
  go_ret
  exact ⟨ret_int (by rw [← IntWalk.i64_left]; exact sign_raw n hz), k, rfl⟩
theorem refMask_any (c : Bool) (w : World) : Calls Tryd.prog 11 #[.bool c] w fun e w' => e = .returned (.int .u64 (mk c)) ∧ w' = w := by
  cases c
  · go_enter Tryd.func11, Tryd.ntmps11
    go_wp2
    go_ret
    exact ⟨rfl, rfl⟩
  · go_enter Tryd.func11, Tryd.ntmps11
    go_wp2
    go_ret
    exact ⟨rfl, rfl⟩
theorem sgn3_neg {n z : Int} (h : (n % 2 == 1) = true) : -1 = sgn3 n z := by unfold sgn3; rw [if_pos (by simpa using h)]
theorem sgn3_zero {n z : Int} (h : (n % 2 == 1) = false) (h' : (z % 2 == 1) = true) : 0 = sgn3 n z := by unfold sgn3; rw [if_neg (by simpa using h), if_pos (by simpa using h')]
theorem sgn3_pos {n z : Int} (h : (n % 2 == 1) = false) (h' : (z % 2 == 1) = false) : 1 = sgn3 n z := by unfold sgn3; rw [if_neg (by simpa using h), if_neg (by simpa using h')]
end Go.Proofs.YtehnpmkolabiaaaDoor
/- Contracts of the functions of package word: what each returns, for every argument. -/
namespace Go.Proofs.YtehnpmkolabiaaaDoor
open Go.RowKit
set_option maxRecDepth 100000
set_option linter.unusedVariables false
set_option linter.unusedSimpArgs false

theorem add64_run (x y c : Int) (hx : U x) (hy : U y) (h0 : 0 ≤ c) (h1 : c ≤ 1) (w : World) :
    (callFunc 75 #[.int .u64 x, .int .u64 y, .int .u64 c]).run Tryd.prog w = .ok (.value (.tuple #[.int .u64 (lo (x + y + c)), .int .u64 (hi (x + y + c))])) w := by
  rw [run_callFunc_extern Tryd.func75 (by kernel_rfl) (by kernel_rfl) (by kernel_rfl) (e := add64Entry) (by kernel_rfl), run_add64 x y c hx.1 hy.1 h0 h1]
  rfl
theorem sub64_run (x y c : Int) (hx : U x) (hy : U y) (h0 : 0 ≤ c) (h1 : c ≤ 1) (w : World) :
    (callFunc 84 #[.int .u64 x, .int .u64 y, .int .u64 c]).run Tryd.prog w = .ok (.value (.tuple #[.int .u64 (lo (x - y - c)), .int .u64 (bo (x - y - c))])) w := by
  rw [run_callFunc_extern Tryd.func84 (by kernel_rfl) (by kernel_rfl) (by kernel_rfl) (e := sub64Entry) (by kernel_rfl)]
  rw [bo_iff hx hy h0 h1]
  obtain ⟨hx0, hx1⟩ := hx
  obtain ⟨hy0, hy1⟩ := hy
  obtain ⟨x, rfl⟩ := Int.eq_ofNat_of_zero_le hx0
  obtain ⟨y, rfl⟩ := Int.eq_ofNat_of_zero_le hy0
  obtain ⟨c, rfl⟩ := Int.eq_ofNat_of_zero_le h0
  rw [run_sub64 x y c (by omega)]
  simp only [Result.andThen]
  have e1 : (((x + 18446744073709551616 - y - c) % 18446744073709551616 : Nat) : Int) = lo ((x : Int) - y - c) := by unfold lo; omega
  have e2 : ((if x < y + c then 1 else 0 : Nat) : Int) = if (x : Int) < y + c then 1 else 0 := by split <;> split <;> omega
  rw [e1, e2]

theorem wordAdd_any (a b c : Int) (ha : U a) (hb : U b) (hc : U c) (w : World) :
    Calls Tryd.prog 68 #[.int .u64 a, .int .u64 b, .int .u64 c] w fun e w' => e = .returned (.tuple #[.int .u64 (lo (a + b + c % 2)), .int .u64 (hi (a + b + c % 2))]) ∧ w' = w := by
  have h0 := (mod2 c).1
  have h1 := (mod2 c).2
  go_enter Tryd.func68, Tryd.ntmps68
  go_wp2_with (fail)
  refine (bit_any _ hc _).mono ?_
  rintro e w' ⟨rfl, hw1⟩
  obtain rfl := hw1.symm
  go_wp2_with (simp only [add64_run a b _ ha hb h0 h1])
  go_ret2
  exact ⟨rfl, rfl⟩
theorem wordSub_any (a b c : Int) (ha : U a) (hb : U b) (hc : U c) (w : World) :
    Calls Tryd.prog 81 #[.int .u64 a, .int .u64 b, .int .u64 c] w fun e w' => e = .returned (.tuple #[.int .u64 (lo (a - b - c % 2)), .int .u64 (bo (a - b - c % 2))]) ∧ w' = w := by
  have h0 := (mod2 c).1
  have h1 := (mod2 c).2
  go_enter Tryd.func81, Tryd.ntmps81
  go_wp2_with (fail)
  refine (bit_any _ hc _).mono ?_
  rintro e w' ⟨rfl, hw1⟩
  obtain rfl := hw1.symm
  go_wp2_with (simp only [sub64_run a b _ ha hb h0 h1])
  go_ret2
  exact ⟨rfl, rfl⟩

theorem ret_pair {k l : IntKind} {a b c d : Int} (h : a = c) (h' : b = d) : Ending.returned (.tuple #[.int k a, .int l b]) = .returned (.tuple #[.int k c, .int l d]) := by rw [h, h']
theorem mul64_any (a b : Int) (ha : U a) (hb : U b) (w : World) :
    Calls Tryd.prog 85 #[.int .u64 a, .int .u64 b] w fun e w' => e = .returned (.tuple #[.int .u64 (hi (a * b)), .int .u64 (lo (a * b))]) ∧ w' = w := by
  obtain ⟨ha0, ha1⟩ := ha
  obtain ⟨hb0, hb1⟩ := hb
  have HA := Lib.hid (mul64_arith a b ha0 (by omega) hb0 (by omega))
  have ea := and_low32 a ha0 (by omega)
  have eb := and_low32 b hb0 (by omega)
  go_enter Tryd.func85, Tryd.ntmps85
  go_wp2
  go_ret2
  refine ⟨ret_pair ?_ (wrap_lo _), rfl⟩
  simp only [wrap_u]
  rw [and_low32 _ (by omega) (by omega)]
  exact HA.out
theorem wordMul_any (a b : Int) (ha : U a) (hb : U b) (w : World) :
    Calls Tryd.prog 82 #[.int .u64 a, .int .u64 b] w fun e w' => e = .returned (.tuple #[.int .u64 (hi (a * b)), .int .u64 (lo (a * b))]) ∧ w' = w := by
  go_enter Tryd.func82, Tryd.ntmps82
  go_wp2_with (fail)
  refine (mul64_any _ _ ha hb _).mono ?_
  rintro e w' ⟨rfl, hw1⟩
  obtain rfl := hw1.symm
  go_wp2
  go_ret2
  exact ⟨rfl, rfl⟩
theorem wordAdd0_any (a b : Int) (ha : U a) (hb : U b) (w : World) :
    Calls Tryd.prog 68 #[.int .u64 a, .int .u64 b, .int .u64 0] w fun e w' => e = .returned (.tuple #[.int .u64 (lo (a + b)), .int .u64 (hi (a + b))]) ∧ w' = w := by
  have h := wordAdd_any a b 0 ha hb U_zero w
  have e : a + b + 0 % 2 = a + b := by omega
  rw [e] at h
  exact h
theorem wordMulAdd_any (a b c d : Int) (ha : U a) (hb : U b) (hc : U c) (hd : U d) (w : World) :
    Calls Tryd.prog 76 #[.int .u64 a, .int .u64 b, .int .u64 c, .int .u64 d] w fun e w' => e = .returned (.tuple #[.int .u64 (hi (a * b + c + d)), .int .u64 (lo (a * b + c + d))]) ∧ w' = w := by
  go_enter Tryd.func76, Tryd.ntmps76
  go_wp2_with (fail)
  refine (wordMul_any _ _ ha hb _).mono ?_
  rintro e w' ⟨rfl, hw1⟩
  obtain rfl := hw1.symm
  go_wp2_with (fail)
  refine (wordAdd0_any _ _ (U_lo _) hc _).mono ?_
  rintro e w' ⟨rfl, hw1⟩
  obtain rfl := hw1.symm
  go_wp2_with (fail)
  refine (wordAdd0_any _ _ (U_lo _) hd _).mono ?_
  rintro e w' ⟨rfl, hw1⟩
  obtain rfl := hw1.symm
  go_wp2
  go_ret2
  have hp := prod_le ha hb
  exact ⟨ret_pair (by rw [wrap_lo, wrap_lo]; exact mulAdd_hi hp.1 hp.2 hc hd) (mulAdd_lo _ _ _), rfl⟩
theorem wordFill_any (a : Int) (ha : U a) (w : World) (hw : Wts w) :
    Calls Tryd.prog 65 #[.int .u64 a] w fun e w' => e = .returned (.int .u64 (mk (decide (9223372036854775808 ≤ a)))) ∧ ∃ n, w' = w.drewN n := by
  go_enter Tryd.func65, Tryd.ntmps65
  go_wp2_with (fail)
  refine (of_any _ (U_shr63 ha) _ (by exact hw)).mono ?_
  rintro e w' ⟨rfl, n1, rfl⟩
  go_wp2
  go_ret
  exact ⟨ret_int (by congr 1; rw [decide_eq_decide]; unfold U at ha; omega), _, rfl⟩
end Go.Proofs.YtehnpmkolabiaaaDoor
/- Contracts of MulSigned of package word, and of the function that it defers. -/
namespace Go.Proofs.YtehnpmkolabiaaaDoor
open Go.RowKit
set_option maxRecDepth 100000
set_option linter.unusedVariables false
set_option linter.unusedSimpArgs false

theorem cell_set_same {w : World} {p : Addr} {u v : Value} (h : w.cell? p = some u) (n : Nat) : ((w.setCell p v).drewN n).cell? p = some v := by
  show (w.setCell p v).cell? p = some v
  exact World.cell?_setCell_same _ _ _ h
theorem cell_set_other {w : World} {p q : Addr} {v : Value} {u : Option Value} (h : w.cell? q = u) (hne : q.block ≠ p.block) (n : Nat) : ((w.setCell p v).drewN n).cell? q = u := by
  show (w.setCell p v).cell? q = u
  rw [World.cell?_of_block (Below.heap_setCell w p v q.block hne)]; exact h
theorem cell_lt {w : World} {g i : Nat} {v : Value} (h1 : w.cell? ⟨g, i, none⟩ = some v) : g < w.heap.size := by
  rcases Nat.lt_or_ge g w.heap.size with h' | h'
  · exact h'
  · rw [World.cell?] at h1
    simp [Array.getElem?_eq_none h'] at h1
theorem Wts.size {w : World} (h : Wts w) : 1 < w.heap.size := cell_lt h.1.1
theorem Wts.sizes {w : World} (h : Wts w) : ∀ p ∈ seatTabs, ∀ (i : Nat) (v : Value), p.2[i]? = some v → p.1 < w.heap.size := fun p hp i v hv => cell_lt (h.2 p hp i v hv)
theorem Wts.below {w w' : World} (h : Wts w) (hb : Below w.heap.size w w') : Wts w' :=
  ⟨⟨(hb.cell (p := ⟨1, 0, none⟩) h.size).trans h.1.1, (hb.cell (p := ⟨1, 1, none⟩) h.size).trans h.1.2⟩,
    fun p hp i v hv => (hb.cell (p := ⟨p.1, i, none⟩) (h.sizes p hp i v hv)).trans (h.2 p hp i v hv)⟩
end Go.Proofs.YtehnpmkolabiaaaDoor
/- Contracts of the functions of the reference of layer 2: what each returns, for every argument; the world is as it was. -/
namespace Go.Proofs.YtehnpmkolabiaaaDoor
open Go.RowKit
set_option maxRecDepth 100000
set_option linter.unusedVariables false
set_option linter.unusedSimpArgs false

attribute [local go_sem] sgn_u64
theorem rpair {k l : IntKind} {a b c d : Int} (h : a = c) (h' : b = d) : Ending.returned (.tuple #[.int k a, .int l b]) = .returned (.tuple #[.int k c, .int l d]) := by rw [h, h']
theorem U_max : U IntKind.u64.max := by unfold U; decide
end Go.Proofs.YtehnpmkolabiaaaDoor
