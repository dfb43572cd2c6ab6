/-
  The shift of a point.
-/
import Derived.Test.YthnhabfnjjbfaaaDoorGen6
namespace Go.Proofs.YthnhabfnjjbfaaaDoor
open Go.RowKit
set_option maxRecDepth 100000
set_option linter.unusedVariables false
set_option linter.unusedSimpArgs false

set_option maxHeartbeats 2000000 in
theorem law6shift (p q x y : Int) (w : World) (X Y : Int) (hX : shA p x = X) (hY : shA q y = Y) :
    Calls Tryd.prog 21 #[.agg #[.int .i64 p, .int .i64 q], .int .i64 x, .int .i64 y] w fun e w' => e = .returned (.tuple #[.agg #[.int .i64 X, .int .i64 Y], .int .i64 (shI p q x y)]) ∧ Below w.heap.size w w' := by
  have e1 : IntKind.i64.wrap (p + x) = X := hX
  have e2 : IntKind.i64.wrap (q + y) = Y := hY
  obtain ⟨I, hI⟩ : ∃ I, I = shI p q x y := ⟨_, rfl⟩
  rw [← hI]
  have HI := Lib.hid hI
  have HX := Lib.hid hX
  have HY := Lib.hid hY
  clear hI hX hY
  have key : ∀ b1 b2 : Bool, (decide (X < p) == decide (x < 0)) = b1 → (decide (Y < q) == decide (y < 0)) = b2 → I = if b1 && b2 then 1 else 0 := by
    intro b1 b2 h1 h2
    rw [HI.out]
    unfold shI shOk
    rw [HX.out, HY.out, h1, h2]
  have HK := Lib.hid key
  clear key
  by_cases t1 : X < p <;> by_cases t2 : x < 0 <;> by_cases t3 : Y < q <;> by_cases t4 : y < 0
  all_goals
    have HI2 := Lib.hid (HK.out _ _ rfl rfl)
    simp only [t1, t2, t3, t4, decide_true, decide_false, beq_self_eq_true, Bool.and_self, Bool.false_eq_true, Bool.true_eq_false, if_true, if_false, reduceIte, Bool.and_false, Bool.and_true, Bool.true_and, Bool.false_and, Bool.false_beq, Bool.true_beq, Bool.not_true, Bool.not_false] at HI2
    go_enter Tryd.func21, Tryd.ntmps21
    go_wp2
    rw [HI2.out]
    exact bodyPost_ret (v := .tuple #[.agg #[.int .i64 X, .int .i64 Y], .int .i64 _]) (by simp [results, Tryd.results21, go_sem]; first | rfl | done) rfl ⟨rfl, by
      first
        | exact (((Below.refl _ _).alloc (Nat.le_refl _) _).alloc (by simp) _).alloc (by simp; omega) _
        | (repeat (first | exact (((Below.refl _ _).alloc (Nat.le_refl _) _).alloc (by simp) _).alloc (by simp; omega) _ | refine Below.setCell ?_ (by simp; try omega) _))⟩
theorem gShift {c : Ctx} {g : Gh} {w : World} {p q x y X Y I : Int} (_hI : RInv c g w) (hX : shA p x = X) (hY : shA q y = Y) (hi : shI p q x y = I) :
    Calls Tryd.prog 21 #[.agg #[.int .i64 p, .int .i64 q], .int .i64 x, .int .i64 y] w (Gives (fun v _ _ => v = .tuple #[.agg #[.int .i64 X, .int .i64 Y], .int .i64 I]) g w) := by
  subst hi
  refine (law6shift p q x y w X Y hX hY).mono ?_
  rintro e w' ⟨rfl, hb⟩
  exact ⟨_, rfl, rfl, hb⟩
end Go.Proofs.YthnhabfnjjbfaaaDoor
