/-
  The examples' contract in the words of the laws.
-/
import Derived.Test.YtdcckjpeibnkbaaDoorLaw5a
namespace Go.Proofs.YtdcckjpeibnkbaaDoor
open Go.RowKit

theorem gAlive5 {c : Ctx} {g : Gh} {w : World} (hI : RInv c g w) (hw : Wts c.W0) : Calls Tryd.prog 11 #[] w (Gives (fun v _ _ => v = .bool true) g w) := by
  refine (alive5_any w (hw.below hI.below)).mono ?_
  rintro e w' ⟨rfl, hb⟩
  exact ⟨_, rfl, rfl, hb⟩
theorem law5is (A B : Option Addr) (n m a b : Nat) (w : World) : Calls Tryd.prog 21 #[.agg #[.slice A n a, .slice B m b]] w fun e w' => e = .returned (.bool (decide (n = 2) && decide (m = 2))) ∧ Below w.heap.size w w' := by
  have hb0 : Below w.heap.size w (w.alloc (.cells #[.slice A n a, .slice B m b] 43)) := (Below.refl _ _).alloc (Nat.le_refl _) _
  by_cases h1 : n = 2
  · by_cases h2 : m = 2
    · subst h1 h2
      go_enter Tryd.func21, Tryd.ntmps21
      go_wp2
      go_ret
      exact ⟨rfl, hb0⟩
    · subst h1
      have t2 : ((m : Int) == 2) = false := by rw [beq_eq_false_iff_ne]; omega
      have e2 : decide (m = 2) = false := decide_eq_false h2
      have H2 := Lib.hid e2
      clear h2 e2
      go_enter Tryd.func21, Tryd.ntmps21
      go_wp2
      go_ret
      exact ⟨by rw [H2.out]; rfl, hb0⟩
  · have t1 : ((n : Int) == 2) = false := by rw [beq_eq_false_iff_ne]; omega
    have e1 : decide (n = 2) = false := decide_eq_false h1
    have H1 := Lib.hid e1
    clear h1 e1
    go_enter Tryd.func21, Tryd.ntmps21
    go_wp2
    go_ret
    exact ⟨by rw [H1.out]; rfl, hb0⟩
theorem gIsYes {c : Ctx} {g : Gh} {w : World} {A B : Option Addr} {a b : Nat} (_hI : RInv c g w) : Calls Tryd.prog 21 #[.agg #[.slice A 2 a, .slice B 2 b]] w (Gives (fun v _ _ => v = .bool true) g w) := by
  refine (law5is A B 2 2 a b w).mono ?_
  rintro e w' ⟨rfl, hb⟩
  exact ⟨_, rfl, rfl, hb⟩
theorem gIsNo {c : Ctx} {g : Gh} {w : World} {A B : Option Addr} {n m a b : Nat} (_hI : RInv c g w) (h : ¬ (n = 2 ∧ m = 2)) : Calls Tryd.prog 21 #[.agg #[.slice A n a, .slice B m b]] w (Gives (fun v _ _ => v = .bool false) g w) := by
  refine (law5is A B n m a b w).mono ?_
  rintro e w' ⟨rfl, hb⟩
  have : (decide (n = 2) && decide (m = 2)) = false := by
    rw [Bool.and_eq_false_iff, decide_eq_false_iff_not, decide_eq_false_iff_not]; omega
  rw [this]
  exact ⟨_, rfl, rfl, hb⟩
end Go.Proofs.YtdcckjpeibnkbaaDoor
