/-
  Law OrientFits. (Written by law5.py.)
-/
import Derived.Test.YthnhabfnjjbfaaaDoorGen6
namespace Go.Proofs.YthnhabfnjjbfaaaDoor
open Go.RowKit
set_option maxRecDepth 100000
set_option linter.unusedVariables false
set_option linter.unusedSimpArgs false

/-- A cell of the extreme coordinates behind k rounds. -/
def fitC (k j : Nat) (s : Bool) : Int := if j < k then (if s then -9223372036854775808 else 9223372036854775807) else 0
theorem fitC_s (s : Bool) {k j : Nat} : S (fitC k j s) := by unfold fitC S; split <;> (try split) <;> omega
/-- The array, behind k rounds; all else as it was. -/
def FitArr (B : Nat) (s0 s1 s2 s3 s4 s5 : Bool) (k : Nat) (wr : World) : Prop :=
  (wr.cell? ⟨B, 0, none⟩ = some (.int .i64 (fitC k 0 s0)) ∧ wr.cell? ⟨B, 1, none⟩ = some (.int .i64 (fitC k 1 s1)) ∧ wr.cell? ⟨B, 2, none⟩ = some (.int .i64 (fitC k 2 s2)) ∧ wr.cell? ⟨B, 3, none⟩ = some (.int .i64 (fitC k 3 s3)) ∧ wr.cell? ⟨B, 4, none⟩ = some (.int .i64 (fitC k 4 s4)) ∧ wr.cell? ⟨B, 5, none⟩ = some (.int .i64 (fitC k 5 s5))) ∧ (wr.frozen? ⟨B, 0, none⟩ = false ∧ wr.frozen? ⟨B, 1, none⟩ = false ∧ wr.frozen? ⟨B, 2, none⟩ = false ∧ wr.frozen? ⟨B, 3, none⟩ = false ∧ wr.frozen? ⟨B, 4, none⟩ = false ∧ wr.frozen? ⟨B, 5, none⟩ = false)
def Fit6Rel (w : World) (s0 s1 s2 s3 s4 s5 : Bool) (xa ya xb yb : Int) (i : Value) (wr : World) : Prop :=
  ∃ k : Nat, i = .int .i64 k ∧ k ≤ 6 ∧ FitArr (w.heap.size + 1 + 1 + 1) s0 s1 s2 s3 s4 s5 k wr ∧ Below w.heap.size w wr ∧ (wr.cell? ⟨w.heap.size + 1, 0, none⟩ = some (.int .i64 xa) ∧ wr.cell? ⟨w.heap.size + 1, 1, none⟩ = some (.int .i64 ya) ∧ wr.cell? ⟨w.heap.size + 1 + 1, 0, none⟩ = some (.int .i64 xb) ∧ wr.cell? ⟨w.heap.size + 1 + 1, 1, none⟩ = some (.int .i64 yb))
theorem fitArr_0_false {B : Nat} {s1 s2 s3 s4 s5 : Bool} {wr : World} (h : FitArr B false s1 s2 s3 s4 s5 0 wr) : FitArr B false s1 s2 s3 s4 s5 1 (wr.setCell ⟨B, 0, none⟩ (.int .i64 9223372036854775807)) := by
  obtain ⟨⟨c0, c1, c2, c3, c4, c5⟩, f0, f1, f2, f3, f4, f5⟩ := h
  refine ⟨⟨(set_cell c0).trans (by simp [fitC]), (set_cell c1).trans (by simp [fitC]), (set_cell c2).trans (by simp [fitC]), (set_cell c3).trans (by simp [fitC]), (set_cell c4).trans (by simp [fitC]), (set_cell c5).trans (by simp [fitC])⟩, (World.frozen?_setCell _ _ _ _).trans f0, (World.frozen?_setCell _ _ _ _).trans f1, (World.frozen?_setCell _ _ _ _).trans f2, (World.frozen?_setCell _ _ _ _).trans f3, (World.frozen?_setCell _ _ _ _).trans f4, (World.frozen?_setCell _ _ _ _).trans f5⟩
theorem fitArr_0_true {B : Nat} {s1 s2 s3 s4 s5 : Bool} {wr : World} (h : FitArr B true s1 s2 s3 s4 s5 0 wr) : FitArr B true s1 s2 s3 s4 s5 1 ((wr.setCell ⟨B, 0, none⟩ (.int .i64 9223372036854775807)).setCell ⟨B, 0, none⟩ (.int .i64 (-9223372036854775808))) := by
  obtain ⟨⟨c0, c1, c2, c3, c4, c5⟩, f0, f1, f2, f3, f4, f5⟩ := h
  refine ⟨⟨(set_cell (set_cell c0)).trans (by simp [fitC]), (set_cell (set_cell c1)).trans (by simp [fitC]), (set_cell (set_cell c2)).trans (by simp [fitC]), (set_cell (set_cell c3)).trans (by simp [fitC]), (set_cell (set_cell c4)).trans (by simp [fitC]), (set_cell (set_cell c5)).trans (by simp [fitC])⟩, (World.frozen?_setCell _ _ _ _).trans ((World.frozen?_setCell _ _ _ _).trans f0), (World.frozen?_setCell _ _ _ _).trans ((World.frozen?_setCell _ _ _ _).trans f1), (World.frozen?_setCell _ _ _ _).trans ((World.frozen?_setCell _ _ _ _).trans f2), (World.frozen?_setCell _ _ _ _).trans ((World.frozen?_setCell _ _ _ _).trans f3), (World.frozen?_setCell _ _ _ _).trans ((World.frozen?_setCell _ _ _ _).trans f4), (World.frozen?_setCell _ _ _ _).trans ((World.frozen?_setCell _ _ _ _).trans f5)⟩
theorem fitArr_1_false {B : Nat} {s0 s2 s3 s4 s5 : Bool} {wr : World} (h : FitArr B s0 false s2 s3 s4 s5 1 wr) : FitArr B s0 false s2 s3 s4 s5 2 (wr.setCell ⟨B, 1, none⟩ (.int .i64 9223372036854775807)) := by
  obtain ⟨⟨c0, c1, c2, c3, c4, c5⟩, f0, f1, f2, f3, f4, f5⟩ := h
  refine ⟨⟨(set_cell c0).trans (by simp [fitC]), (set_cell c1).trans (by simp [fitC]), (set_cell c2).trans (by simp [fitC]), (set_cell c3).trans (by simp [fitC]), (set_cell c4).trans (by simp [fitC]), (set_cell c5).trans (by simp [fitC])⟩, (World.frozen?_setCell _ _ _ _).trans f0, (World.frozen?_setCell _ _ _ _).trans f1, (World.frozen?_setCell _ _ _ _).trans f2, (World.frozen?_setCell _ _ _ _).trans f3, (World.frozen?_setCell _ _ _ _).trans f4, (World.frozen?_setCell _ _ _ _).trans f5⟩
theorem fitArr_1_true {B : Nat} {s0 s2 s3 s4 s5 : Bool} {wr : World} (h : FitArr B s0 true s2 s3 s4 s5 1 wr) : FitArr B s0 true s2 s3 s4 s5 2 ((wr.setCell ⟨B, 1, none⟩ (.int .i64 9223372036854775807)).setCell ⟨B, 1, none⟩ (.int .i64 (-9223372036854775808))) := by
  obtain ⟨⟨c0, c1, c2, c3, c4, c5⟩, f0, f1, f2, f3, f4, f5⟩ := h
  refine ⟨⟨(set_cell (set_cell c0)).trans (by simp [fitC]), (set_cell (set_cell c1)).trans (by simp [fitC]), (set_cell (set_cell c2)).trans (by simp [fitC]), (set_cell (set_cell c3)).trans (by simp [fitC]), (set_cell (set_cell c4)).trans (by simp [fitC]), (set_cell (set_cell c5)).trans (by simp [fitC])⟩, (World.frozen?_setCell _ _ _ _).trans ((World.frozen?_setCell _ _ _ _).trans f0), (World.frozen?_setCell _ _ _ _).trans ((World.frozen?_setCell _ _ _ _).trans f1), (World.frozen?_setCell _ _ _ _).trans ((World.frozen?_setCell _ _ _ _).trans f2), (World.frozen?_setCell _ _ _ _).trans ((World.frozen?_setCell _ _ _ _).trans f3), (World.frozen?_setCell _ _ _ _).trans ((World.frozen?_setCell _ _ _ _).trans f4), (World.frozen?_setCell _ _ _ _).trans ((World.frozen?_setCell _ _ _ _).trans f5)⟩
theorem fitArr_2_false {B : Nat} {s0 s1 s3 s4 s5 : Bool} {wr : World} (h : FitArr B s0 s1 false s3 s4 s5 2 wr) : FitArr B s0 s1 false s3 s4 s5 3 (wr.setCell ⟨B, 2, none⟩ (.int .i64 9223372036854775807)) := by
  obtain ⟨⟨c0, c1, c2, c3, c4, c5⟩, f0, f1, f2, f3, f4, f5⟩ := h
  refine ⟨⟨(set_cell c0).trans (by simp [fitC]), (set_cell c1).trans (by simp [fitC]), (set_cell c2).trans (by simp [fitC]), (set_cell c3).trans (by simp [fitC]), (set_cell c4).trans (by simp [fitC]), (set_cell c5).trans (by simp [fitC])⟩, (World.frozen?_setCell _ _ _ _).trans f0, (World.frozen?_setCell _ _ _ _).trans f1, (World.frozen?_setCell _ _ _ _).trans f2, (World.frozen?_setCell _ _ _ _).trans f3, (World.frozen?_setCell _ _ _ _).trans f4, (World.frozen?_setCell _ _ _ _).trans f5⟩
theorem fitArr_2_true {B : Nat} {s0 s1 s3 s4 s5 : Bool} {wr : World} (h : FitArr B s0 s1 true s3 s4 s5 2 wr) : FitArr B s0 s1 true s3 s4 s5 3 ((wr.setCell ⟨B, 2, none⟩ (.int .i64 9223372036854775807)).setCell ⟨B, 2, none⟩ (.int .i64 (-9223372036854775808))) := by
  obtain ⟨⟨c0, c1, c2, c3, c4, c5⟩, f0, f1, f2, f3, f4, f5⟩ := h
  refine ⟨⟨(set_cell (set_cell c0)).trans (by simp [fitC]), (set_cell (set_cell c1)).trans (by simp [fitC]), (set_cell (set_cell c2)).trans (by simp [fitC]), (set_cell (set_cell c3)).trans (by simp [fitC]), (set_cell (set_cell c4)).trans (by simp [fitC]), (set_cell (set_cell c5)).trans (by simp [fitC])⟩, (World.frozen?_setCell _ _ _ _).trans ((World.frozen?_setCell _ _ _ _).trans f0), (World.frozen?_setCell _ _ _ _).trans ((World.frozen?_setCell _ _ _ _).trans f1), (World.frozen?_setCell _ _ _ _).trans ((World.frozen?_setCell _ _ _ _).trans f2), (World.frozen?_setCell _ _ _ _).trans ((World.frozen?_setCell _ _ _ _).trans f3), (World.frozen?_setCell _ _ _ _).trans ((World.frozen?_setCell _ _ _ _).trans f4), (World.frozen?_setCell _ _ _ _).trans ((World.frozen?_setCell _ _ _ _).trans f5)⟩
theorem fitArr_3_false {B : Nat} {s0 s1 s2 s4 s5 : Bool} {wr : World} (h : FitArr B s0 s1 s2 false s4 s5 3 wr) : FitArr B s0 s1 s2 false s4 s5 4 (wr.setCell ⟨B, 3, none⟩ (.int .i64 9223372036854775807)) := by
  obtain ⟨⟨c0, c1, c2, c3, c4, c5⟩, f0, f1, f2, f3, f4, f5⟩ := h
  refine ⟨⟨(set_cell c0).trans (by simp [fitC]), (set_cell c1).trans (by simp [fitC]), (set_cell c2).trans (by simp [fitC]), (set_cell c3).trans (by simp [fitC]), (set_cell c4).trans (by simp [fitC]), (set_cell c5).trans (by simp [fitC])⟩, (World.frozen?_setCell _ _ _ _).trans f0, (World.frozen?_setCell _ _ _ _).trans f1, (World.frozen?_setCell _ _ _ _).trans f2, (World.frozen?_setCell _ _ _ _).trans f3, (World.frozen?_setCell _ _ _ _).trans f4, (World.frozen?_setCell _ _ _ _).trans f5⟩
theorem fitArr_3_true {B : Nat} {s0 s1 s2 s4 s5 : Bool} {wr : World} (h : FitArr B s0 s1 s2 true s4 s5 3 wr) : FitArr B s0 s1 s2 true s4 s5 4 ((wr.setCell ⟨B, 3, none⟩ (.int .i64 9223372036854775807)).setCell ⟨B, 3, none⟩ (.int .i64 (-9223372036854775808))) := by
  obtain ⟨⟨c0, c1, c2, c3, c4, c5⟩, f0, f1, f2, f3, f4, f5⟩ := h
  refine ⟨⟨(set_cell (set_cell c0)).trans (by simp [fitC]), (set_cell (set_cell c1)).trans (by simp [fitC]), (set_cell (set_cell c2)).trans (by simp [fitC]), (set_cell (set_cell c3)).trans (by simp [fitC]), (set_cell (set_cell c4)).trans (by simp [fitC]), (set_cell (set_cell c5)).trans (by simp [fitC])⟩, (World.frozen?_setCell _ _ _ _).trans ((World.frozen?_setCell _ _ _ _).trans f0), (World.frozen?_setCell _ _ _ _).trans ((World.frozen?_setCell _ _ _ _).trans f1), (World.frozen?_setCell _ _ _ _).trans ((World.frozen?_setCell _ _ _ _).trans f2), (World.frozen?_setCell _ _ _ _).trans ((World.frozen?_setCell _ _ _ _).trans f3), (World.frozen?_setCell _ _ _ _).trans ((World.frozen?_setCell _ _ _ _).trans f4), (World.frozen?_setCell _ _ _ _).trans ((World.frozen?_setCell _ _ _ _).trans f5)⟩
theorem fitArr_4_false {B : Nat} {s0 s1 s2 s3 s5 : Bool} {wr : World} (h : FitArr B s0 s1 s2 s3 false s5 4 wr) : FitArr B s0 s1 s2 s3 false s5 5 (wr.setCell ⟨B, 4, none⟩ (.int .i64 9223372036854775807)) := by
  obtain ⟨⟨c0, c1, c2, c3, c4, c5⟩, f0, f1, f2, f3, f4, f5⟩ := h
  refine ⟨⟨(set_cell c0).trans (by simp [fitC]), (set_cell c1).trans (by simp [fitC]), (set_cell c2).trans (by simp [fitC]), (set_cell c3).trans (by simp [fitC]), (set_cell c4).trans (by simp [fitC]), (set_cell c5).trans (by simp [fitC])⟩, (World.frozen?_setCell _ _ _ _).trans f0, (World.frozen?_setCell _ _ _ _).trans f1, (World.frozen?_setCell _ _ _ _).trans f2, (World.frozen?_setCell _ _ _ _).trans f3, (World.frozen?_setCell _ _ _ _).trans f4, (World.frozen?_setCell _ _ _ _).trans f5⟩
theorem fitArr_4_true {B : Nat} {s0 s1 s2 s3 s5 : Bool} {wr : World} (h : FitArr B s0 s1 s2 s3 true s5 4 wr) : FitArr B s0 s1 s2 s3 true s5 5 ((wr.setCell ⟨B, 4, none⟩ (.int .i64 9223372036854775807)).setCell ⟨B, 4, none⟩ (.int .i64 (-9223372036854775808))) := by
  obtain ⟨⟨c0, c1, c2, c3, c4, c5⟩, f0, f1, f2, f3, f4, f5⟩ := h
  refine ⟨⟨(set_cell (set_cell c0)).trans (by simp [fitC]), (set_cell (set_cell c1)).trans (by simp [fitC]), (set_cell (set_cell c2)).trans (by simp [fitC]), (set_cell (set_cell c3)).trans (by simp [fitC]), (set_cell (set_cell c4)).trans (by simp [fitC]), (set_cell (set_cell c5)).trans (by simp [fitC])⟩, (World.frozen?_setCell _ _ _ _).trans ((World.frozen?_setCell _ _ _ _).trans f0), (World.frozen?_setCell _ _ _ _).trans ((World.frozen?_setCell _ _ _ _).trans f1), (World.frozen?_setCell _ _ _ _).trans ((World.frozen?_setCell _ _ _ _).trans f2), (World.frozen?_setCell _ _ _ _).trans ((World.frozen?_setCell _ _ _ _).trans f3), (World.frozen?_setCell _ _ _ _).trans ((World.frozen?_setCell _ _ _ _).trans f4), (World.frozen?_setCell _ _ _ _).trans ((World.frozen?_setCell _ _ _ _).trans f5)⟩
theorem fitArr_5_false {B : Nat} {s0 s1 s2 s3 s4 : Bool} {wr : World} (h : FitArr B s0 s1 s2 s3 s4 false 5 wr) : FitArr B s0 s1 s2 s3 s4 false 6 (wr.setCell ⟨B, 5, none⟩ (.int .i64 9223372036854775807)) := by
  obtain ⟨⟨c0, c1, c2, c3, c4, c5⟩, f0, f1, f2, f3, f4, f5⟩ := h
  refine ⟨⟨(set_cell c0).trans (by simp [fitC]), (set_cell c1).trans (by simp [fitC]), (set_cell c2).trans (by simp [fitC]), (set_cell c3).trans (by simp [fitC]), (set_cell c4).trans (by simp [fitC]), (set_cell c5).trans (by simp [fitC])⟩, (World.frozen?_setCell _ _ _ _).trans f0, (World.frozen?_setCell _ _ _ _).trans f1, (World.frozen?_setCell _ _ _ _).trans f2, (World.frozen?_setCell _ _ _ _).trans f3, (World.frozen?_setCell _ _ _ _).trans f4, (World.frozen?_setCell _ _ _ _).trans f5⟩
theorem fitArr_5_true {B : Nat} {s0 s1 s2 s3 s4 : Bool} {wr : World} (h : FitArr B s0 s1 s2 s3 s4 true 5 wr) : FitArr B s0 s1 s2 s3 s4 true 6 ((wr.setCell ⟨B, 5, none⟩ (.int .i64 9223372036854775807)).setCell ⟨B, 5, none⟩ (.int .i64 (-9223372036854775808))) := by
  obtain ⟨⟨c0, c1, c2, c3, c4, c5⟩, f0, f1, f2, f3, f4, f5⟩ := h
  refine ⟨⟨(set_cell (set_cell c0)).trans (by simp [fitC]), (set_cell (set_cell c1)).trans (by simp [fitC]), (set_cell (set_cell c2)).trans (by simp [fitC]), (set_cell (set_cell c3)).trans (by simp [fitC]), (set_cell (set_cell c4)).trans (by simp [fitC]), (set_cell (set_cell c5)).trans (by simp [fitC])⟩, (World.frozen?_setCell _ _ _ _).trans ((World.frozen?_setCell _ _ _ _).trans f0), (World.frozen?_setCell _ _ _ _).trans ((World.frozen?_setCell _ _ _ _).trans f1), (World.frozen?_setCell _ _ _ _).trans ((World.frozen?_setCell _ _ _ _).trans f2), (World.frozen?_setCell _ _ _ _).trans ((World.frozen?_setCell _ _ _ _).trans f3), (World.frozen?_setCell _ _ _ _).trans ((World.frozen?_setCell _ _ _ _).trans f4), (World.frozen?_setCell _ _ _ _).trans ((World.frozen?_setCell _ _ _ _).trans f5)⟩
theorem high_limb {x : Int} (h0 : -680564733841876926852962238568698216450 ≤ x) (h1 : x ≤ 680564733841876926852962238568698216450) : 0 ≤ IntKind.u64.wrap (dgt (limbs 3 x) 2 + 8) ∧ IntKind.u64.wrap (dgt (limbs 3 x) 2 + 8) < 16 := by
  have e : dgt (limbs 3 x) 2 = x / 18446744073709551616 / 18446744073709551616 % 18446744073709551616 := rfl
  rw [e, wrap_u]
  omega
set_option maxHeartbeats 8000000 in
theorem law_orientFits (s0 s1 s2 s3 s4 s5 : Bool) (xa ya xb yb : Int) (w : World) (hw : Wts w) (sxa : S xa) (sya : S ya) (sxb : S xb) (syb : S yb) :
    Calls Tryd.prog 8 #[.agg #[.bool s0, .bool s1, .bool s2, .bool s3, .bool s4, .bool s5], .agg #[.int .i64 xa, .int .i64 ya], .agg #[.int .i64 xb, .int .i64 yb]] w fun e w' => e = .returned (.bool true) ∧ Below w.heap.size w w' := by
  have hi0 : ∀ (b0 b1 b2 b3 b4 b5 : Bool) (w : World), Sem.run Tryd.prog (Instr.index 45 (.agg #[.bool b0, .bool b1, .bool b2, .bool b3, .bool b4, .bool b5]) (.int .i64 0)) w = .ok (.bool b0) w := fun _ _ _ _ _ _ _ => by kernel_rfl
  have hi1 : ∀ (b0 b1 b2 b3 b4 b5 : Bool) (w : World), Sem.run Tryd.prog (Instr.index 45 (.agg #[.bool b0, .bool b1, .bool b2, .bool b3, .bool b4, .bool b5]) (.int .i64 1)) w = .ok (.bool b1) w := fun _ _ _ _ _ _ _ => by kernel_rfl
  have hi2 : ∀ (b0 b1 b2 b3 b4 b5 : Bool) (w : World), Sem.run Tryd.prog (Instr.index 45 (.agg #[.bool b0, .bool b1, .bool b2, .bool b3, .bool b4, .bool b5]) (.int .i64 2)) w = .ok (.bool b2) w := fun _ _ _ _ _ _ _ => by kernel_rfl
  have hi3 : ∀ (b0 b1 b2 b3 b4 b5 : Bool) (w : World), Sem.run Tryd.prog (Instr.index 45 (.agg #[.bool b0, .bool b1, .bool b2, .bool b3, .bool b4, .bool b5]) (.int .i64 3)) w = .ok (.bool b3) w := fun _ _ _ _ _ _ _ => by kernel_rfl
  have hi4 : ∀ (b0 b1 b2 b3 b4 b5 : Bool) (w : World), Sem.run Tryd.prog (Instr.index 45 (.agg #[.bool b0, .bool b1, .bool b2, .bool b3, .bool b4, .bool b5]) (.int .i64 4)) w = .ok (.bool b4) w := fun _ _ _ _ _ _ _ => by kernel_rfl
  have hi5 : ∀ (b0 b1 b2 b3 b4 b5 : Bool) (w : World), Sem.run Tryd.prog (Instr.index 45 (.agg #[.bool b0, .bool b1, .bool b2, .bool b3, .bool b4, .bool b5]) (.int .i64 5)) w = .ok (.bool b5) w := fun _ _ _ _ _ _ _ => by kernel_rfl
  go_enter Tryd.func8, Tryd.ntmps8
  go_wp2
  go_loopw [13] (fun i wr => Fit6Rel w s0 s1 s2 s3 s4 s5 xa ya xb yb i wr) (fun i _ => 6 - (intOf i).toNat)
  case atStart =>
    refine ⟨0, rfl, by omega, ⟨⟨by simp [go_sem, fitC], by simp [go_sem, fitC], by simp [go_sem, fitC], by simp [go_sem, fitC], by simp [go_sem, fitC], by simp [go_sem, fitC]⟩, by simp [go_sem], by simp [go_sem], by simp [go_sem], by simp [go_sem], by simp [go_sem], by simp [go_sem]⟩, ?_, by simp [go_sem], by simp [go_sem], by simp [go_sem], by simp [go_sem]⟩
    exact ((((Below.refl _ _).alloc (Nat.le_refl _) _).alloc (by simp) _).alloc (by simp; omega) _).alloc (by simp; omega) _
  case round =>
    obtain ⟨k, rfl, hk, harr, hbl, a0, a1, b0, b1⟩ := hrel
    have HARR := Lib.hid harr
    obtain ⟨⟨c0, c1, c2, c3, c4, c5⟩, f0, f1, f2, f3, f4, f5⟩ := harr
    have hks : k = 0 ∨ k = 1 ∨ k = 2 ∨ k = 3 ∨ k = 4 ∨ k = 5 ∨ k = 6 := by omega
    rcases hks with rfl | rfl | rfl | rfl | rfl | rfl | rfl
    · cases s0 with
      | false =>
        go_wp2
        go_roundw
        case rel => exact ⟨1, rfl, by omega, fitArr_0_false HARR.out, hbl.setCell (p := ⟨w.heap.size + 1 + 1 + 1, 0, none⟩) (by show w.heap.size ≤ w.heap.size + 1 + 1 + 1; omega) _, set_low a0 (by omega), set_low a1 (by omega), set_low b0 (by omega), set_low b1 (by omega)⟩
        case measure => simp [intOf]
      | true =>
        go_wp2
        go_roundw
        case rel => exact ⟨1, rfl, by omega, fitArr_0_true HARR.out, (hbl.setCell (p := ⟨w.heap.size + 1 + 1 + 1, 0, none⟩) (by show w.heap.size ≤ w.heap.size + 1 + 1 + 1; omega) _).setCell (p := ⟨w.heap.size + 1 + 1 + 1, 0, none⟩) (by show w.heap.size ≤ w.heap.size + 1 + 1 + 1; omega) _, set_low (set_low a0 (by omega)) (by omega), set_low (set_low a1 (by omega)) (by omega), set_low (set_low b0 (by omega)) (by omega), set_low (set_low b1 (by omega)) (by omega)⟩
        case measure => simp [intOf]
    · cases s1 with
      | false =>
        go_wp2
        go_roundw
        case rel => exact ⟨2, rfl, by omega, fitArr_1_false HARR.out, hbl.setCell (p := ⟨w.heap.size + 1 + 1 + 1, 1, none⟩) (by show w.heap.size ≤ w.heap.size + 1 + 1 + 1; omega) _, set_low a0 (by omega), set_low a1 (by omega), set_low b0 (by omega), set_low b1 (by omega)⟩
        case measure => simp [intOf]
      | true =>
        go_wp2
        go_roundw
        case rel => exact ⟨2, rfl, by omega, fitArr_1_true HARR.out, (hbl.setCell (p := ⟨w.heap.size + 1 + 1 + 1, 1, none⟩) (by show w.heap.size ≤ w.heap.size + 1 + 1 + 1; omega) _).setCell (p := ⟨w.heap.size + 1 + 1 + 1, 1, none⟩) (by show w.heap.size ≤ w.heap.size + 1 + 1 + 1; omega) _, set_low (set_low a0 (by omega)) (by omega), set_low (set_low a1 (by omega)) (by omega), set_low (set_low b0 (by omega)) (by omega), set_low (set_low b1 (by omega)) (by omega)⟩
        case measure => simp [intOf]
    · cases s2 with
      | false =>
        go_wp2
        go_roundw
        case rel => exact ⟨3, rfl, by omega, fitArr_2_false HARR.out, hbl.setCell (p := ⟨w.heap.size + 1 + 1 + 1, 2, none⟩) (by show w.heap.size ≤ w.heap.size + 1 + 1 + 1; omega) _, set_low a0 (by omega), set_low a1 (by omega), set_low b0 (by omega), set_low b1 (by omega)⟩
        case measure => simp [intOf]
      | true =>
        go_wp2
        go_roundw
        case rel => exact ⟨3, rfl, by omega, fitArr_2_true HARR.out, (hbl.setCell (p := ⟨w.heap.size + 1 + 1 + 1, 2, none⟩) (by show w.heap.size ≤ w.heap.size + 1 + 1 + 1; omega) _).setCell (p := ⟨w.heap.size + 1 + 1 + 1, 2, none⟩) (by show w.heap.size ≤ w.heap.size + 1 + 1 + 1; omega) _, set_low (set_low a0 (by omega)) (by omega), set_low (set_low a1 (by omega)) (by omega), set_low (set_low b0 (by omega)) (by omega), set_low (set_low b1 (by omega)) (by omega)⟩
        case measure => simp [intOf]
    · cases s3 with
      | false =>
        go_wp2
        go_roundw
        case rel => exact ⟨4, rfl, by omega, fitArr_3_false HARR.out, hbl.setCell (p := ⟨w.heap.size + 1 + 1 + 1, 3, none⟩) (by show w.heap.size ≤ w.heap.size + 1 + 1 + 1; omega) _, set_low a0 (by omega), set_low a1 (by omega), set_low b0 (by omega), set_low b1 (by omega)⟩
        case measure => simp [intOf]
      | true =>
        go_wp2
        go_roundw
        case rel => exact ⟨4, rfl, by omega, fitArr_3_true HARR.out, (hbl.setCell (p := ⟨w.heap.size + 1 + 1 + 1, 3, none⟩) (by show w.heap.size ≤ w.heap.size + 1 + 1 + 1; omega) _).setCell (p := ⟨w.heap.size + 1 + 1 + 1, 3, none⟩) (by show w.heap.size ≤ w.heap.size + 1 + 1 + 1; omega) _, set_low (set_low a0 (by omega)) (by omega), set_low (set_low a1 (by omega)) (by omega), set_low (set_low b0 (by omega)) (by omega), set_low (set_low b1 (by omega)) (by omega)⟩
        case measure => simp [intOf]
    · cases s4 with
      | false =>
        go_wp2
        go_roundw
        case rel => exact ⟨5, rfl, by omega, fitArr_4_false HARR.out, hbl.setCell (p := ⟨w.heap.size + 1 + 1 + 1, 4, none⟩) (by show w.heap.size ≤ w.heap.size + 1 + 1 + 1; omega) _, set_low a0 (by omega), set_low a1 (by omega), set_low b0 (by omega), set_low b1 (by omega)⟩
        case measure => simp [intOf]
      | true =>
        go_wp2
        go_roundw
        case rel => exact ⟨5, rfl, by omega, fitArr_4_true HARR.out, (hbl.setCell (p := ⟨w.heap.size + 1 + 1 + 1, 4, none⟩) (by show w.heap.size ≤ w.heap.size + 1 + 1 + 1; omega) _).setCell (p := ⟨w.heap.size + 1 + 1 + 1, 4, none⟩) (by show w.heap.size ≤ w.heap.size + 1 + 1 + 1; omega) _, set_low (set_low a0 (by omega)) (by omega), set_low (set_low a1 (by omega)) (by omega), set_low (set_low b0 (by omega)) (by omega), set_low (set_low b1 (by omega)) (by omega)⟩
        case measure => simp [intOf]
    · cases s5 with
      | false =>
        go_wp2
        go_roundw
        case rel => exact ⟨6, rfl, by omega, fitArr_5_false HARR.out, hbl.setCell (p := ⟨w.heap.size + 1 + 1 + 1, 5, none⟩) (by show w.heap.size ≤ w.heap.size + 1 + 1 + 1; omega) _, set_low a0 (by omega), set_low a1 (by omega), set_low b0 (by omega), set_low b1 (by omega)⟩
        case measure => simp [intOf]
      | true =>
        go_wp2
        go_roundw
        case rel => exact ⟨6, rfl, by omega, fitArr_5_true HARR.out, (hbl.setCell (p := ⟨w.heap.size + 1 + 1 + 1, 5, none⟩) (by show w.heap.size ≤ w.heap.size + 1 + 1 + 1; omega) _).setCell (p := ⟨w.heap.size + 1 + 1 + 1, 5, none⟩) (by show w.heap.size ≤ w.heap.size + 1 + 1 + 1; omega) _, set_low (set_low a0 (by omega)) (by omega), set_low (set_low a1 (by omega)) (by omega), set_low (set_low b0 (by omega)) (by omega), set_low (set_low b1 (by omega)) (by omega)⟩
        case measure => simp [intOf]
    · clear hi0 hi1 hi2 hi3 hi4 hi5 HARR f0 f1 f2 f3 f4 f5
      have sX0 := fitC_s s0 (k := 6) (j := 0)
      have sX1 := fitC_s s1 (k := 6) (j := 1)
      have sX2 := fitC_s s2 (k := 6) (j := 2)
      have sX3 := fitC_s s3 (k := 6) (j := 3)
      have sX4 := fitC_s s4 (k := 6) (j := 4)
      have sX5 := fitC_s s5 (k := 6) (j := 5)
      generalize fitC 6 0 s0 = X0 at *
      generalize fitC 6 1 s1 = X1 at *
      generalize fitC 6 2 s2 = X2 at *
      generalize fitC 6 3 s3 = X3 at *
      generalize fitC 6 4 s4 = X4 at *
      generalize fitC 6 5 s5 = X5 at *
      have C7_W_0 := Lib.hid c0
      have C7_W_1 := Lib.hid c1
      have C7_W_2 := Lib.hid c2
      have C7_W_3 := Lib.hid c3
      have C7_W_4 := Lib.hid c4
      have C7_W_5 := Lib.hid c5
      have C4_W_0 := Lib.hid a0
      have C4_W_1 := Lib.hid a1
      have C5_W_0 := Lib.hid b0
      have C5_W_1 := Lib.hid b1
      have hb0 := hbl
      have HD1 := Lib.hid (high_limb (x := det X0 X1 X2 X3 X4 X5) (det_bd sX0 sX1 sX2 sX3 sX4 sX5).1 (det_bd sX0 sX1 sX2 sX3 sX4 sX5).2)
      have HD2 := Lib.hid (high_limb (x := det X0 X1 xa ya xb yb) (det_bd sX0 sX1 sxa sya sxb syb).1 (det_bd sX0 sX1 sxa sya sxb syb).2)
      clear c0 c1 c2 c3 c4 c5 a0 a1 b0 b1 hbl
      go_upto_region 9 with (fail)
      refine box_plan0 (c := ⟨w, wr, (fun _ => none)⟩) (Ctx.ok_none hb0) [[], [(23, 0)], [], [(25, 2)], [(24, 1), (26, 3)], [], [(28, 5)], [], [(30, 7)], [(29, 6), (31, 8)], [], [(33, 10)], [], [(35, 12)], [(34, 11), (36, 13)], [(27, 4), (32, 9), (37, 14)], [(38, 15)]] [(23, 0), (24, 1), (25, 2), (26, 3), (27, 4), (28, 5), (29, 6), (30, 7), (31, 8), (32, 9), (33, 10), (34, 11), (35, 12), (36, 13), (37, 14), (38, 15), (10, 16)] [
          (fun v _ _ => v = .pointer (some ⟨w.heap.size + 1 + 1 + 1, 0, none⟩)),
          (fun v _ _ => v = .int .i64 X0),
          (fun v _ _ => v = .pointer (some ⟨w.heap.size + 1 + 1 + 1, 1, none⟩)),
          (fun v _ _ => v = .int .i64 X1),
          (fun v _ _ => v = .agg #[.int .i64 X0, .int .i64 X1]),
          (fun v _ _ => v = .pointer (some ⟨w.heap.size + 1 + 1 + 1, 2, none⟩)),
          (fun v _ _ => v = .int .i64 X2),
          (fun v _ _ => v = .pointer (some ⟨w.heap.size + 1 + 1 + 1, 3, none⟩)),
          (fun v _ _ => v = .int .i64 X3),
          (fun v _ _ => v = .agg #[.int .i64 X2, .int .i64 X3]),
          (fun v _ _ => v = .pointer (some ⟨w.heap.size + 1 + 1 + 1, 4, none⟩)),
          (fun v _ _ => v = .int .i64 X4),
          (fun v _ _ => v = .pointer (some ⟨w.heap.size + 1 + 1 + 1, 5, none⟩)),
          (fun v _ _ => v = .int .i64 X5),
          (fun v _ _ => v = .agg #[.int .i64 X4, .int .i64 X5]),
          LimR 3 (det X0 X1 X2 X3 X4 X5),
          LimR 3 (det X0 X1 X2 X3 X4 X5)
        ] (fun _ => none) (by kernel_rfl) (by kernel_rfl) ⟨stab_eq, stab_eq, stab_eq, stab_eq, stab_eq, stab_eq, stab_eq, stab_eq, stab_eq, stab_eq, stab_eq, stab_eq, stab_eq, stab_eq, stab_eq, stab_firm (limR_firm _ _), stab_firm (limR_firm _ _), trivial⟩ ?steps ?fin
      case steps =>
        refine ⟨?_, ?_, ?_, ?_, ?_, ?_, ?_, ?_, ?_, ?_, ?_, ?_, ?_, ?_, ?_, ?_, ?_, trivial⟩
        · intro vs g w2 hI hF hR K hK
          simp only [Facts, fill, Act.put, z1, z2, z3, z4, z5, Nat.reduceAdd] at hF hR hK ⊢
          go_simp
          exact hK _ _ _ hI (Step.refl hI) rfl
        · intro vs g w2 hI hF hR K hK
          simp only [Facts, fill, Act.put, z1, z2, z3, z4, z5, Nat.reduceAdd] at hF hR hK ⊢
          obtain ⟨r0, -⟩ := hR
          generalize vs 0 = x0 at *
          subst r0
          have k0 := hI.cell C7_W_0.out (fun _ h => by cases h)
          go_simp
          exact hK _ _ _ hI (Step.refl hI) rfl
        · intro vs g w2 hI hF hR K hK
          simp only [Facts, fill, Act.put, z1, z2, z3, z4, z5, Nat.reduceAdd] at hF hR hK ⊢
          go_simp
          exact hK _ _ _ hI (Step.refl hI) rfl
        · intro vs g w2 hI hF hR K hK
          simp only [Facts, fill, Act.put, z1, z2, z3, z4, z5, Nat.reduceAdd] at hF hR hK ⊢
          obtain ⟨r2, -⟩ := hR
          generalize vs 2 = x2 at *
          subst r2
          have k0 := hI.cell C7_W_1.out (fun _ h => by cases h)
          go_simp
          exact hK _ _ _ hI (Step.refl hI) rfl
        · intro vs g w2 hI hF hR K hK
          simp only [Facts, fill, Act.put, z1, z2, z3, z4, z5, Nat.reduceAdd] at hF hR hK ⊢
          obtain ⟨r1, r3, -⟩ := hR
          generalize vs 1 = x1, vs 3 = x3 at *
          subst r1 r3
          go_simp
          exact hK _ _ _ hI (Step.refl hI) rfl
        · intro vs g w2 hI hF hR K hK
          simp only [Facts, fill, Act.put, z1, z2, z3, z4, z5, Nat.reduceAdd] at hF hR hK ⊢
          go_simp
          exact hK _ _ _ hI (Step.refl hI) rfl
        · intro vs g w2 hI hF hR K hK
          simp only [Facts, fill, Act.put, z1, z2, z3, z4, z5, Nat.reduceAdd] at hF hR hK ⊢
          obtain ⟨r5, -⟩ := hR
          generalize vs 5 = x5 at *
          subst r5
          have k0 := hI.cell C7_W_2.out (fun _ h => by cases h)
          go_simp
          exact hK _ _ _ hI (Step.refl hI) rfl
        · intro vs g w2 hI hF hR K hK
          simp only [Facts, fill, Act.put, z1, z2, z3, z4, z5, Nat.reduceAdd] at hF hR hK ⊢
          go_simp
          exact hK _ _ _ hI (Step.refl hI) rfl
        · intro vs g w2 hI hF hR K hK
          simp only [Facts, fill, Act.put, z1, z2, z3, z4, z5, Nat.reduceAdd] at hF hR hK ⊢
          obtain ⟨r7, -⟩ := hR
          generalize vs 7 = x7 at *
          subst r7
          have k0 := hI.cell C7_W_3.out (fun _ h => by cases h)
          go_simp
          exact hK _ _ _ hI (Step.refl hI) rfl
        · intro vs g w2 hI hF hR K hK
          simp only [Facts, fill, Act.put, z1, z2, z3, z4, z5, Nat.reduceAdd] at hF hR hK ⊢
          obtain ⟨r6, r8, -⟩ := hR
          generalize vs 6 = x6, vs 8 = x8 at *
          subst r6 r8
          go_simp
          exact hK _ _ _ hI (Step.refl hI) rfl
        · intro vs g w2 hI hF hR K hK
          simp only [Facts, fill, Act.put, z1, z2, z3, z4, z5, Nat.reduceAdd] at hF hR hK ⊢
          go_simp
          exact hK _ _ _ hI (Step.refl hI) rfl
        · intro vs g w2 hI hF hR K hK
          simp only [Facts, fill, Act.put, z1, z2, z3, z4, z5, Nat.reduceAdd] at hF hR hK ⊢
          obtain ⟨r10, -⟩ := hR
          generalize vs 10 = x10 at *
          subst r10
          have k0 := hI.cell C7_W_4.out (fun _ h => by cases h)
          go_simp
          exact hK _ _ _ hI (Step.refl hI) rfl
        · intro vs g w2 hI hF hR K hK
          simp only [Facts, fill, Act.put, z1, z2, z3, z4, z5, Nat.reduceAdd] at hF hR hK ⊢
          go_simp
          exact hK _ _ _ hI (Step.refl hI) rfl
        · intro vs g w2 hI hF hR K hK
          simp only [Facts, fill, Act.put, z1, z2, z3, z4, z5, Nat.reduceAdd] at hF hR hK ⊢
          obtain ⟨r12, -⟩ := hR
          generalize vs 12 = x12 at *
          subst r12
          have k0 := hI.cell C7_W_5.out (fun _ h => by cases h)
          go_simp
          exact hK _ _ _ hI (Step.refl hI) rfl
        · intro vs g w2 hI hF hR K hK
          simp only [Facts, fill, Act.put, z1, z2, z3, z4, z5, Nat.reduceAdd] at hF hR hK ⊢
          obtain ⟨r11, r13, -⟩ := hR
          generalize vs 11 = x11, vs 13 = x13 at *
          subst r11 r13
          go_simp
          exact hK _ _ _ hI (Step.refl hI) rfl
        · intro vs g w2 hI hF hR K hK
          simp only [Facts, fill, Act.put, z1, z2, z3, z4, z5, Nat.reduceAdd] at hF hR hK ⊢
          obtain ⟨r4, r9, r14, -⟩ := hR
          generalize vs 4 = x4, vs 9 = x9, vs 14 = x14 at *
          subst r4 r9 r14
          go_simp
          refine (gOrientValue hI hw (by first | assumption | (unfold S; decide)) (by first | assumption | (unfold S; decide)) (by first | assumption | (unfold S; decide)) (by first | assumption | (unfold S; decide)) (by first | assumption | (unfold S; decide)) (by first | assumption | (unfold S; decide))).mono ?_
          rintro e w3 ⟨v3, rfl, hv, hb⟩
          exact hK _ _ _ (hI.call hb) (Step.call hI hb) hv
        · intro vs g w2 hI hF hR K hK
          simp only [Facts, fill, Act.put, z1, z2, z3, z4, z5, Nat.reduceAdd] at hF hR hK ⊢
          obtain ⟨r15, -⟩ := hR
          generalize vs 15 = x15 at *
          go_simp
          exact hK _ _ _ hI (Step.refl hI) r15
      case fin =>
        intro vs g wR9 hI hR
        have r16 := hR 16 (by decide)
        simp only [fill, Act.put, z1, z2, z3, z4, z5] at r16 ⊢
        clear hR
        generalize vs 16 = x16 at *
        have C7_R9_0 := Lib.hid (hI.cell C7_W_0.out (fun _ h => by cases h))
        have C7_R9_1 := Lib.hid (hI.cell C7_W_1.out (fun _ h => by cases h))
        have C7_R9_2 := Lib.hid (hI.cell C7_W_2.out (fun _ h => by cases h))
        have C7_R9_3 := Lib.hid (hI.cell C7_W_3.out (fun _ h => by cases h))
        have C7_R9_4 := Lib.hid (hI.cell C7_W_4.out (fun _ h => by cases h))
        have C7_R9_5 := Lib.hid (hI.cell C7_W_5.out (fun _ h => by cases h))
        have C4_R9_0 := Lib.hid (hI.cell C4_W_0.out (fun _ h => by cases h))
        have C4_R9_1 := Lib.hid (hI.cell C4_W_1.out (fun _ h => by cases h))
        have C5_R9_0 := Lib.hid (hI.cell C5_W_0.out (fun _ h => by cases h))
        have C5_R9_1 := Lib.hid (hI.cell C5_W_1.out (fun _ h => by cases h))
        have qfR910 := r16
        obtain ⟨AvR910, cvR910, rfl⟩ := limR_open r16
        have FR910_R9_0 := Lib.hid ((limR_firm _ _) _ _ _ _ _ qfR910 hI.back)
        clear qfR910
        have hBR9 := hI.below
        have HCR9 := hI.next (Ctx.ok_none hb0)
        clear hI
        go_upto_region 10 with (fail)
        refine box_plan0 (c := ⟨w, wR9, (fun _ => none)⟩) HCR9 [[], [(39, 0)], [], [(41, 2)], [(40, 1), (42, 3)], [], [], [(43, 4), (44, 5), (45, 6)], [(46, 7)]] [(39, 0), (40, 1), (41, 2), (42, 3), (43, 4), (44, 5), (45, 6), (46, 7), (11, 8)] [
            (fun v _ _ => v = .pointer (some ⟨w.heap.size + 1 + 1 + 1, 0, none⟩)),
            (fun v _ _ => v = .int .i64 X0),
            (fun v _ _ => v = .pointer (some ⟨w.heap.size + 1 + 1 + 1, 1, none⟩)),
            (fun v _ _ => v = .int .i64 X1),
            (fun v _ _ => v = .agg #[.int .i64 X0, .int .i64 X1]),
            (fun v _ _ => v = .agg #[.int .i64 xa, .int .i64 ya]),
            (fun v _ _ => v = .agg #[.int .i64 xb, .int .i64 yb]),
            LimR 3 (det X0 X1 xa ya xb yb),
            LimR 3 (det X0 X1 xa ya xb yb)
          ] (fun _ => none) (by kernel_rfl) (by kernel_rfl) ⟨stab_eq, stab_eq, stab_eq, stab_eq, stab_eq, stab_eq, stab_eq, stab_firm (limR_firm _ _), stab_firm (limR_firm _ _), trivial⟩ ?steps ?fin
        case steps =>
          refine ⟨?_, ?_, ?_, ?_, ?_, ?_, ?_, ?_, ?_, trivial⟩
          · intro vs g w2 hI hF hR K hK
            simp only [Facts, fill, Act.put, z1, z2, z3, z4, z5, Nat.reduceAdd] at hF hR hK ⊢
            go_simp
            exact hK _ _ _ hI (Step.refl hI) rfl
          · intro vs g w2 hI hF hR K hK
            simp only [Facts, fill, Act.put, z1, z2, z3, z4, z5, Nat.reduceAdd] at hF hR hK ⊢
            obtain ⟨r0, -⟩ := hR
            generalize vs 0 = x0 at *
            subst r0
            have k0 := hI.cell C7_R9_0.out (fun _ h => by cases h)
            go_simp
            exact hK _ _ _ hI (Step.refl hI) rfl
          · intro vs g w2 hI hF hR K hK
            simp only [Facts, fill, Act.put, z1, z2, z3, z4, z5, Nat.reduceAdd] at hF hR hK ⊢
            go_simp
            exact hK _ _ _ hI (Step.refl hI) rfl
          · intro vs g w2 hI hF hR K hK
            simp only [Facts, fill, Act.put, z1, z2, z3, z4, z5, Nat.reduceAdd] at hF hR hK ⊢
            obtain ⟨r2, -⟩ := hR
            generalize vs 2 = x2 at *
            subst r2
            have k0 := hI.cell C7_R9_1.out (fun _ h => by cases h)
            go_simp
            exact hK _ _ _ hI (Step.refl hI) rfl
          · intro vs g w2 hI hF hR K hK
            simp only [Facts, fill, Act.put, z1, z2, z3, z4, z5, Nat.reduceAdd] at hF hR hK ⊢
            obtain ⟨r1, r3, -⟩ := hR
            generalize vs 1 = x1, vs 3 = x3 at *
            subst r1 r3
            go_simp
            exact hK _ _ _ hI (Step.refl hI) rfl
          · intro vs g w2 hI hF hR K hK
            simp only [Facts, fill, Act.put, z1, z2, z3, z4, z5, Nat.reduceAdd] at hF hR hK ⊢
            have k0 := hI.cell C4_R9_0.out (fun _ h => by cases h)
            have k1 := hI.cell C4_R9_1.out (fun _ h => by cases h)
            go_simp
            exact hK _ _ _ hI (Step.refl hI) rfl
          · intro vs g w2 hI hF hR K hK
            simp only [Facts, fill, Act.put, z1, z2, z3, z4, z5, Nat.reduceAdd] at hF hR hK ⊢
            have k0 := hI.cell C5_R9_0.out (fun _ h => by cases h)
            have k1 := hI.cell C5_R9_1.out (fun _ h => by cases h)
            go_simp
            exact hK _ _ _ hI (Step.refl hI) rfl
          · intro vs g w2 hI hF hR K hK
            simp only [Facts, fill, Act.put, z1, z2, z3, z4, z5, Nat.reduceAdd] at hF hR hK ⊢
            obtain ⟨r4, r5, r6, -⟩ := hR
            generalize vs 4 = x4, vs 5 = x5, vs 6 = x6 at *
            subst r4 r5 r6
            go_simp
            refine (gOrientValue hI hw (by first | assumption | (unfold S; decide)) (by first | assumption | (unfold S; decide)) (by first | assumption | (unfold S; decide)) (by first | assumption | (unfold S; decide)) (by first | assumption | (unfold S; decide)) (by first | assumption | (unfold S; decide))).mono ?_
            rintro e w3 ⟨v3, rfl, hv, hb⟩
            exact hK _ _ _ (hI.call hb) (Step.call hI hb) hv
          · intro vs g w2 hI hF hR K hK
            simp only [Facts, fill, Act.put, z1, z2, z3, z4, z5, Nat.reduceAdd] at hF hR hK ⊢
            obtain ⟨r7, -⟩ := hR
            generalize vs 7 = x7 at *
            go_simp
            exact hK _ _ _ hI (Step.refl hI) r7
        case fin =>
          intro vs g wR10 hI hR
          have r8 := hR 8 (by decide)
          simp only [fill, Act.put, z1, z2, z3, z4, z5] at r8 ⊢
          clear hR
          generalize vs 8 = x8 at *
          have C7_R10_0 := Lib.hid (hI.cell C7_R9_0.out (fun _ h => by cases h))
          have C7_R10_1 := Lib.hid (hI.cell C7_R9_1.out (fun _ h => by cases h))
          have C7_R10_2 := Lib.hid (hI.cell C7_R9_2.out (fun _ h => by cases h))
          have C7_R10_3 := Lib.hid (hI.cell C7_R9_3.out (fun _ h => by cases h))
          have C7_R10_4 := Lib.hid (hI.cell C7_R9_4.out (fun _ h => by cases h))
          have C7_R10_5 := Lib.hid (hI.cell C7_R9_5.out (fun _ h => by cases h))
          have C4_R10_0 := Lib.hid (hI.cell C4_R9_0.out (fun _ h => by cases h))
          have C4_R10_1 := Lib.hid (hI.cell C4_R9_1.out (fun _ h => by cases h))
          have C5_R10_0 := Lib.hid (hI.cell C5_R9_0.out (fun _ h => by cases h))
          have C5_R10_1 := Lib.hid (hI.cell C5_R9_1.out (fun _ h => by cases h))
          have FR910_R10_0 := Lib.hid ((limR_firm _ _) _ _ _ _ _ FR910_R9_0.out hI.carry)
          have qfR1011 := r8
          obtain ⟨AvR1011, cvR1011, rfl⟩ := limR_open r8
          have FR1011_R10_0 := Lib.hid ((limR_firm _ _) _ _ _ _ _ qfR1011 hI.back)
          clear qfR1011
          have hBR10 := hI.below
          have HCR10 := hI.next HCR9
          clear hI
          go_upto_region 11 with (fail)
          refine box_plan0 (c := ⟨w, wR10, (fun _ => none)⟩) HCR10 [[], [(47, 0)], [(48, 1)], [(49, 2)], [(50, 3)], [(50, 3), (51, 4)], [(50, 3), (52, 5)], [(50, 3), (53, 6)]] [(47, 0), (48, 1), (49, 2), (50, 3), (51, 4), (52, 5), (53, 6), (54, 7)] [
              (fun v _ _ => v = .slice AvR910 3 cvR910),
              (fun v _ _ => v = .int .i64 3),
              (fun v _ _ => v = .bool false),
              (fun v _ _ => v = .bool false),
              (fun v _ _ => v = .slice AvR1011 3 cvR1011),
              (fun v _ _ => v = .int .i64 3),
              (fun v _ _ => v = .bool false),
              (fun v _ _ => v = .bool false)
            ] (fun _ => none) (by kernel_rfl) (by kernel_rfl) ⟨stab_eq, stab_eq, stab_eq, stab_eq, stab_eq, stab_eq, stab_eq, stab_eq, trivial⟩ ?steps ?fin
          case steps =>
            refine ⟨?_, ?_, ?_, ?_, ?_, ?_, ?_, ?_, trivial⟩
            · intro vs g w2 hI hF hR K hK
              simp only [Facts, fill, Act.put, z1, z2, z3, z4, z5, Nat.reduceAdd] at hF hR hK ⊢
              go_simp
              exact hK _ _ _ hI (Step.refl hI) rfl
            · intro vs g w2 hI hF hR K hK
              simp only [Facts, fill, Act.put, z1, z2, z3, z4, z5, Nat.reduceAdd] at hF hR hK ⊢
              obtain ⟨r0, -⟩ := hR
              generalize vs 0 = x0 at *
              subst r0
              go_simp
              exact hK _ _ _ hI (Step.refl hI) rfl
            · intro vs g w2 hI hF hR K hK
              simp only [Facts, fill, Act.put, z1, z2, z3, z4, z5, Nat.reduceAdd] at hF hR hK ⊢
              obtain ⟨r1, -⟩ := hR
              generalize vs 1 = x1 at *
              subst r1
              go_simp
              exact hK _ _ _ hI (Step.refl hI) rfl
            · intro vs g w2 hI hF hR K hK
              simp only [Facts, fill, Act.put, z1, z2, z3, z4, z5, Nat.reduceAdd] at hF hR hK ⊢
              obtain ⟨r2, -⟩ := hR
              generalize vs 2 = x2 at *
              subst r2
              go_simp
              exact hK _ _ _ hI (Step.refl hI) rfl
            · intro vs g w2 hI hF hR K hK
              simp only [Facts, fill, Act.put, z1, z2, z3, z4, z5, Nat.reduceAdd] at hF hR hK ⊢
              obtain ⟨r3, -⟩ := hR
              generalize vs 3 = x3 at *
              subst r3
              go_simp
              exact hK _ _ _ hI (Step.refl hI) rfl
            · intro vs g w2 hI hF hR K hK
              simp only [Facts, fill, Act.put, z1, z2, z3, z4, z5, Nat.reduceAdd] at hF hR hK ⊢
              obtain ⟨r3, r4, -⟩ := hR
              generalize vs 3 = x3, vs 4 = x4 at *
              subst r3 r4
              go_simp
              exact hK _ _ _ hI (Step.refl hI) rfl
            · intro vs g w2 hI hF hR K hK
              simp only [Facts, fill, Act.put, z1, z2, z3, z4, z5, Nat.reduceAdd] at hF hR hK ⊢
              obtain ⟨r3, r5, -⟩ := hR
              generalize vs 3 = x3, vs 5 = x5 at *
              subst r3 r5
              go_simp
              exact hK _ _ _ hI (Step.refl hI) rfl
            · intro vs g w2 hI hF hR K hK
              simp only [Facts, fill, Act.put, z1, z2, z3, z4, z5, Nat.reduceAdd] at hF hR hK ⊢
              obtain ⟨r3, r6, -⟩ := hR
              generalize vs 3 = x3, vs 6 = x6 at *
              subst r3 r6
              go_simp
              exact hK _ _ _ hI (Step.refl hI) rfl
          case fin =>
            intro vs g wR11 hI hR
            have r7 := hR 7 (by decide)
            simp only [fill, Act.put, z1, z2, z3, z4, z5] at r7 ⊢
            clear hR
            generalize vs 7 = x7 at *
            have C7_R11_0 := Lib.hid (hI.cell C7_R10_0.out (fun _ h => by cases h))
            have C7_R11_1 := Lib.hid (hI.cell C7_R10_1.out (fun _ h => by cases h))
            have C7_R11_2 := Lib.hid (hI.cell C7_R10_2.out (fun _ h => by cases h))
            have C7_R11_3 := Lib.hid (hI.cell C7_R10_3.out (fun _ h => by cases h))
            have C7_R11_4 := Lib.hid (hI.cell C7_R10_4.out (fun _ h => by cases h))
            have C7_R11_5 := Lib.hid (hI.cell C7_R10_5.out (fun _ h => by cases h))
            have C4_R11_0 := Lib.hid (hI.cell C4_R10_0.out (fun _ h => by cases h))
            have C4_R11_1 := Lib.hid (hI.cell C4_R10_1.out (fun _ h => by cases h))
            have C5_R11_0 := Lib.hid (hI.cell C5_R10_0.out (fun _ h => by cases h))
            have C5_R11_1 := Lib.hid (hI.cell C5_R10_1.out (fun _ h => by cases h))
            have FR910_R11_0 := Lib.hid ((limR_firm _ _) _ _ _ _ _ FR910_R10_0.out hI.carry)
            have FR1011_R11_0 := Lib.hid ((limR_firm _ _) _ _ _ _ _ FR1011_R10_0.out hI.carry)
            subst r7
            have hBR11 := hI.below
            have HCR11 := hI.next HCR10
            clear hI
            go_upto_region 13 with (fail)
            refine box_plan0 (c := ⟨w, wR11, (fun _ => none)⟩) HCR11 [[], [(55, 0)], [(56, 1)], [(56, 1), (57, 2)], [(56, 1), (58, 3)], [(56, 1), (59, 4)], [(56, 1), (60, 5)], [(56, 1), (61, 6)], [(56, 1), (62, 7)], [(63, 8)], [(64, 9)], [(64, 9), (65, 10)], [(64, 9), (66, 11)], [(64, 9), (67, 12)], [(64, 9), (68, 13)], [(64, 9), (69, 14)], [(64, 9), (70, 15)], [(71, 16)]] [(55, 0), (56, 1), (57, 2), (58, 3), (59, 4), (60, 5), (61, 6), (62, 7), (63, 8), (64, 9), (65, 10), (66, 11), (67, 12), (68, 13), (69, 14), (70, 15), (71, 16), (6, 17)] [
                (fun v _ _ => v = .bool true),
                (fun v _ _ => v = .bool true),
                (fun v _ _ => v = .slice AvR910 3 cvR910),
                LimP 3 (det X0 X1 X2 X3 X4 X5) 2,
                (fun v _ _ => v = .int .u64 (dgt (limbs 3 (det X0 X1 X2 X3 X4 X5)) 2)),
                (fun v _ _ => v = .int .u64 (IntKind.u64.wrap (dgt (limbs 3 (det X0 X1 X2 X3 X4 X5)) 2 + 8))),
                (fun v _ _ => v = .int .u64 0),
                (fun v _ _ => v = .bool true),
                (fun v _ _ => v = .bool true),
                (fun v _ _ => v = .bool true),
                (fun v _ _ => v = .slice AvR1011 3 cvR1011),
                LimP 3 (det X0 X1 xa ya xb yb) 2,
                (fun v _ _ => v = .int .u64 (dgt (limbs 3 (det X0 X1 xa ya xb yb)) 2)),
                (fun v _ _ => v = .int .u64 (IntKind.u64.wrap (dgt (limbs 3 (det X0 X1 xa ya xb yb)) 2 + 8))),
                (fun v _ _ => v = .int .u64 0),
                (fun v _ _ => v = .bool true),
                (fun v _ _ => v = .bool true),
                (fun v _ _ => v = .bool true)
              ] (fun _ => none) (by kernel_rfl) (by kernel_rfl) ⟨stab_eq, stab_eq, stab_eq, stab_firm (limP_firm _ _ _), stab_eq, stab_eq, stab_eq, stab_eq, stab_eq, stab_eq, stab_eq, stab_firm (limP_firm _ _ _), stab_eq, stab_eq, stab_eq, stab_eq, stab_eq, stab_eq, trivial⟩ ?steps ?fin
            case steps =>
              refine ⟨?_, ?_, ?_, ?_, ?_, ?_, ?_, ?_, ?_, ?_, ?_, ?_, ?_, ?_, ?_, ?_, ?_, ?_, trivial⟩
              · intro vs g w2 hI hF hR K hK
                simp only [Facts, fill, Act.put, z1, z2, z3, z4, z5, Nat.reduceAdd] at hF hR hK ⊢
                go_simp
                refine (gAlive6 hI hw).mono ?_
                rintro e w3 ⟨v3, rfl, hv, hb⟩
                exact hK _ _ _ (hI.call hb) (Step.call hI hb) hv
              · intro vs g w2 hI hF hR K hK
                simp only [Facts, fill, Act.put, z1, z2, z3, z4, z5, Nat.reduceAdd] at hF hR hK ⊢
                obtain ⟨r0, -⟩ := hR
                generalize vs 0 = x0 at *
                subst r0
                go_simp
                exact hK _ _ _ hI (Step.refl hI) rfl
              · intro vs g w2 hI hF hR K hK
                simp only [Facts, fill, Act.put, z1, z2, z3, z4, z5, Nat.reduceAdd] at hF hR hK ⊢
                obtain ⟨r1, -⟩ := hR
                generalize vs 1 = x1 at *
                subst r1
                go_simp
                exact hK _ _ _ hI (Step.refl hI) rfl
              · intro vs g w2 hI hF hR K hK
                simp only [Facts, fill, Act.put, z1, z2, z3, z4, z5, Nat.reduceAdd] at hF hR hK ⊢
                obtain ⟨r1, r2, -⟩ := hR
                generalize vs 1 = x1, vs 2 = x2 at *
                subst r1 r2
                obtain ⟨b, o, rfl, hp⟩ := limR_at (i := 2) ((limR_firm _ _) _ _ _ _ _ FR910_R11_0.out hI.keeps) (by decide)
                go_simp
                exact hK _ _ _ hI (Step.refl hI) hp
              · intro vs g w2 hI hF hR K hK
                simp only [Facts, fill, Act.put, z1, z2, z3, z4, z5, Nat.reduceAdd] at hF hR hK ⊢
                obtain ⟨r1, r3, -⟩ := hR
                generalize vs 1 = x1, vs 3 = x3 at *
                subst r1
                obtain ⟨b, o, rfl, -, hc⟩ := r3
                go_simp
                exact hK _ _ _ hI (Step.refl hI) rfl
              · intro vs g w2 hI hF hR K hK
                simp only [Facts, fill, Act.put, z1, z2, z3, z4, z5, Nat.reduceAdd] at hF hR hK ⊢
                obtain ⟨r1, r4, -⟩ := hR
                generalize vs 1 = x1, vs 4 = x4 at *
                subst r1 r4
                go_simp
                exact hK _ _ _ hI (Step.refl hI) rfl
              · intro vs g w2 hI hF hR K hK
                simp only [Facts, fill, Act.put, z1, z2, z3, z4, z5, Nat.reduceAdd] at hF hR hK ⊢
                obtain ⟨r1, r5, -⟩ := hR
                generalize vs 1 = x1, vs 5 = x5 at *
                subst r1 r5
                obtain ⟨h0, h1⟩ := HD1.out
                generalize IntKind.u64.wrap (dgt (limbs 3 (det X0 X1 X2 X3 X4 X5)) 2 + 8) = z at *
                have e1 : z / 16 = 0 := by omega
                have e2 : z.tdiv 16 = 0 := by rw [Int.tdiv_eq_ediv_of_nonneg h0]; exact e1
                go_simp
                exact hK _ _ _ hI (Step.refl hI) rfl
              · intro vs g w2 hI hF hR K hK
                simp only [Facts, fill, Act.put, z1, z2, z3, z4, z5, Nat.reduceAdd] at hF hR hK ⊢
                obtain ⟨r1, r6, -⟩ := hR
                generalize vs 1 = x1, vs 6 = x6 at *
                subst r1 r6
                go_simp
                exact hK _ _ _ hI (Step.refl hI) rfl
              · intro vs g w2 hI hF hR K hK
                simp only [Facts, fill, Act.put, z1, z2, z3, z4, z5, Nat.reduceAdd] at hF hR hK ⊢
                obtain ⟨r1, r7, -⟩ := hR
                generalize vs 1 = x1, vs 7 = x7 at *
                subst r1 r7
                go_simp
                exact hK _ _ _ hI (Step.refl hI) rfl
              · intro vs g w2 hI hF hR K hK
                simp only [Facts, fill, Act.put, z1, z2, z3, z4, z5, Nat.reduceAdd] at hF hR hK ⊢
                obtain ⟨r8, -⟩ := hR
                generalize vs 8 = x8 at *
                subst r8
                go_simp
                exact hK _ _ _ hI (Step.refl hI) rfl
              · intro vs g w2 hI hF hR K hK
                simp only [Facts, fill, Act.put, z1, z2, z3, z4, z5, Nat.reduceAdd] at hF hR hK ⊢
                obtain ⟨r9, -⟩ := hR
                generalize vs 9 = x9 at *
                subst r9
                go_simp
                exact hK _ _ _ hI (Step.refl hI) rfl
              · intro vs g w2 hI hF hR K hK
                simp only [Facts, fill, Act.put, z1, z2, z3, z4, z5, Nat.reduceAdd] at hF hR hK ⊢
                obtain ⟨r9, r10, -⟩ := hR
                generalize vs 9 = x9, vs 10 = x10 at *
                subst r9 r10
                obtain ⟨b, o, rfl, hp⟩ := limR_at (i := 2) ((limR_firm _ _) _ _ _ _ _ FR1011_R11_0.out hI.keeps) (by decide)
                go_simp
                exact hK _ _ _ hI (Step.refl hI) hp
              · intro vs g w2 hI hF hR K hK
                simp only [Facts, fill, Act.put, z1, z2, z3, z4, z5, Nat.reduceAdd] at hF hR hK ⊢
                obtain ⟨r9, r11, -⟩ := hR
                generalize vs 9 = x9, vs 11 = x11 at *
                subst r9
                obtain ⟨b, o, rfl, -, hc⟩ := r11
                go_simp
                exact hK _ _ _ hI (Step.refl hI) rfl
              · intro vs g w2 hI hF hR K hK
                simp only [Facts, fill, Act.put, z1, z2, z3, z4, z5, Nat.reduceAdd] at hF hR hK ⊢
                obtain ⟨r9, r12, -⟩ := hR
                generalize vs 9 = x9, vs 12 = x12 at *
                subst r9 r12
                go_simp
                exact hK _ _ _ hI (Step.refl hI) rfl
              · intro vs g w2 hI hF hR K hK
                simp only [Facts, fill, Act.put, z1, z2, z3, z4, z5, Nat.reduceAdd] at hF hR hK ⊢
                obtain ⟨r9, r13, -⟩ := hR
                generalize vs 9 = x9, vs 13 = x13 at *
                subst r9 r13
                obtain ⟨h0, h1⟩ := HD2.out
                generalize IntKind.u64.wrap (dgt (limbs 3 (det X0 X1 xa ya xb yb)) 2 + 8) = z at *
                have e1 : z / 16 = 0 := by omega
                have e2 : z.tdiv 16 = 0 := by rw [Int.tdiv_eq_ediv_of_nonneg h0]; exact e1
                go_simp
                exact hK _ _ _ hI (Step.refl hI) rfl
              · intro vs g w2 hI hF hR K hK
                simp only [Facts, fill, Act.put, z1, z2, z3, z4, z5, Nat.reduceAdd] at hF hR hK ⊢
                obtain ⟨r9, r14, -⟩ := hR
                generalize vs 9 = x9, vs 14 = x14 at *
                subst r9 r14
                go_simp
                exact hK _ _ _ hI (Step.refl hI) rfl
              · intro vs g w2 hI hF hR K hK
                simp only [Facts, fill, Act.put, z1, z2, z3, z4, z5, Nat.reduceAdd] at hF hR hK ⊢
                obtain ⟨r9, r15, -⟩ := hR
                generalize vs 9 = x9, vs 15 = x15 at *
                subst r9 r15
                go_simp
                exact hK _ _ _ hI (Step.refl hI) rfl
              · intro vs g w2 hI hF hR K hK
                simp only [Facts, fill, Act.put, z1, z2, z3, z4, z5, Nat.reduceAdd] at hF hR hK ⊢
                obtain ⟨r16, -⟩ := hR
                generalize vs 16 = x16 at *
                subst r16
                go_simp
                exact hK _ _ _ hI (Step.refl hI) rfl
            case fin =>
              intro vs g wR13 hI hR
              have r17 := hR 17 (by decide)
              simp only [fill, Act.put, z1, z2, z3, z4, z5] at r17 ⊢
              clear hR
              generalize vs 17 = x17 at *
              have C7_R13_0 := Lib.hid (hI.cell C7_R11_0.out (fun _ h => by cases h))
              have C7_R13_1 := Lib.hid (hI.cell C7_R11_1.out (fun _ h => by cases h))
              have C7_R13_2 := Lib.hid (hI.cell C7_R11_2.out (fun _ h => by cases h))
              have C7_R13_3 := Lib.hid (hI.cell C7_R11_3.out (fun _ h => by cases h))
              have C7_R13_4 := Lib.hid (hI.cell C7_R11_4.out (fun _ h => by cases h))
              have C7_R13_5 := Lib.hid (hI.cell C7_R11_5.out (fun _ h => by cases h))
              have C4_R13_0 := Lib.hid (hI.cell C4_R11_0.out (fun _ h => by cases h))
              have C4_R13_1 := Lib.hid (hI.cell C4_R11_1.out (fun _ h => by cases h))
              have C5_R13_0 := Lib.hid (hI.cell C5_R11_0.out (fun _ h => by cases h))
              have C5_R13_1 := Lib.hid (hI.cell C5_R11_1.out (fun _ h => by cases h))
              have FR910_R13_0 := Lib.hid ((limR_firm _ _) _ _ _ _ _ FR910_R11_0.out hI.carry)
              have FR1011_R13_0 := Lib.hid ((limR_firm _ _) _ _ _ _ _ FR1011_R11_0.out hI.carry)
              subst r17
              have hBR13 := hI.below
              have HCR13 := hI.next HCR11
              clear hI
              go_wp2
              go_ret
              exact ⟨rfl, hBR13⟩
end Go.Proofs.YthnhabfnjjbfaaaDoor
