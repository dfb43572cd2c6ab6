/-
  Contracts of package limb, all together: the last one.
-/
import Derived.Test.YtdcckjpeibnkbaaDoorLimbH
import Derived.Test.YtdcckjpeibnkbaaDoorLimbI
namespace Go.Proofs.YtdcckjpeibnkbaaDoor
open Go.RowKit

theorem limbMul_no (A B : Option Addr) (c d : Nat) (la lb : List Int) (w : World) (_hw : Wts w) (_ha : Arg w A c la) (_hb : Arg w B d lb) (hla : la.length ≤ 1000000) (hlb : lb.length ≤ 1000000) (h : la.length < 1 ∨ lb.length < 1 ∨ 8 < la.length + lb.length) :
    Calls Tryd.prog 50 #[.slice A la.length c, .slice B lb.length d] w (GivesNone w) := by
  have hwr : IntKind.i64.wrap ((la.length : Int) + (lb.length : Int)) = (la.length : Int) + (lb.length : Int) := i64_small (by omega) (by omega)
  by_cases hi : 1 ≤ la.length ∧ la.length ≤ 8
  · have h1 := hi.1
    have h8 := hi.2
    by_cases hj : 1 ≤ lb.length ∧ lb.length ≤ 8
    · have h2 := hj.1
      have h9 := hj.2
      have HN := Lib.hid (show 8 < la.length + lb.length by omega)
      clear h hi hj
      go_enter Tryd.func50, Tryd.ntmps50
      go_wp2_with (fail)
      refine (isInteger_yes _ _ _ _ h1 h8).mono ?_
      rintro e w' ⟨rfl, hw1⟩
      obtain rfl := hw1.symm
      go_wp2_with (fail)
      refine (isInteger_yes _ _ _ _ h2 h9).mono ?_
      rintro e w' ⟨rfl, hw1⟩
      obtain rfl := hw1.symm
      go_wp2_with (fail)
      refine (isWidth_no _ _ (by have := HN.out; omega)).mono ?_
      rintro e w' ⟨rfl, hw1⟩
      obtain rfl := hw1.symm
      go_wp2
      go_ret
      exact ⟨none, 0, rfl, Below.refl _ _⟩
    · have HN := Lib.hid (show lb.length < 1 ∨ 8 < lb.length by omega)
      clear h hi hj
      go_enter Tryd.func50, Tryd.ntmps50
      go_wp2_with (fail)
      refine (isInteger_yes _ _ _ _ h1 h8).mono ?_
      rintro e w' ⟨rfl, hw1⟩
      obtain rfl := hw1.symm
      go_wp2_with (fail)
      refine (isInteger_no _ _ _ _ HN.out).mono ?_
      rintro e w' ⟨rfl, hw1⟩
      obtain rfl := hw1.symm
      go_wp2
      go_ret
      exact ⟨none, 0, rfl, Below.refl _ _⟩
  · have HN := Lib.hid (show la.length < 1 ∨ 8 < la.length by omega)
    clear h hi
    go_enter Tryd.func50, Tryd.ntmps50
    go_wp2_with (fail)
    refine (isInteger_no _ _ _ _ HN.out).mono ?_
    rintro e w' ⟨rfl, hw1⟩
    obtain rfl := hw1.symm
    go_wp2
    go_ret
    exact ⟨none, 0, rfl, Below.refl _ _⟩
end Go.Proofs.YtdcckjpeibnkbaaDoor
