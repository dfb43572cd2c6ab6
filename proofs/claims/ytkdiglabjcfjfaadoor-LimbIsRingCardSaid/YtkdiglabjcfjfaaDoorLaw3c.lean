/-
  The walks of the laws of layer 3, third part.
-/
import Derived.Test.YtkdiglabjcfjfaaDoorLaw3b
import Derived.Test.YtkdiglabjcfjfaaDoorRef03e
namespace Go.Proofs.YtkdiglabjcfjfaaDoor
open Go.RowKit

theorem r3limbs_c (z : Int) (va : Value) (x : Int) (n L : Nat) (S : Nat → Prop) (w : World) (ha : NumR w S L va x) (hL : L ≤ 100000) (hn : n ≤ 1000) (hz : z = (n : Int)) :
    Calls Tryd.prog 15 #[va, .int .i64 z] w (GivesU w (limbs n x)) := by
  subst hz; exact r3limbs_any va x n L S w ha hL hn
theorem mul_cases (n m : Nat) : (n = 0 ∨ 8 < n) ∨ (1 ≤ n ∧ n ≤ 8 ∧ (m = 0 ∨ 8 < m)) ∨ (1 ≤ n ∧ n ≤ 8 ∧ 1 ≤ m ∧ m ≤ 8 ∧ 8 < n + m) ∨ (1 ≤ n ∧ n ≤ 8 ∧ 1 ≤ m ∧ m ≤ 8 ∧ n + m ≤ 8) := by omega
set_option maxHeartbeats 2000000 in
theorem law_limbMultiplies (A B : Option Addr) (c d : Nat) (la lb : List Int) (w : World) (hw : Wts w) (ha : Arg w A c la) (hb : Arg w B d lb) :
    Calls Tryd.prog 5 #[.slice A la.length c, .slice B lb.length d] w fun e w' => e = .returned (.bool true) ∧ Below w.heap.size w w' := by
  have hb1 : Below w.heap.size w (w.alloc (.cells #[.slice A la.length c, .slice B lb.length d] 22)) := (Below.refl _ _).alloc (Nat.le_refl _) _
  have hw1 := hw.below hb1
  by_cases hlong : 50 < la.length ∨ 50 < lb.length
  · go_enter Tryd.func5, Tryd.ntmps5
    go_wp2_with (fail)
    refine (long2_yes _ la.length c lb.length d A B _ (by simp [go_sem]) (by simp [go_sem]) hlong).mono ?_
    rintro e w' ⟨rfl, rfl⟩
    go_wp2_with (fail)
    refine (alive3 _ hw1).mono ?_
    rintro e w2 ⟨rfl, hb2⟩
    go_wp2
    go_ret
    exact ⟨rfl, hb1.trans (hb2.mono hb1.size)⟩
  · rcases mul_cases la.length lb.length with h1 | ⟨h1, h2, h3⟩ | ⟨h1, h2, h3, h4, h5⟩ | ⟨h1, h2, h3, h4, h5⟩
    · go_enter Tryd.func5, Tryd.ntmps5
      go_wp2_with (fail)
      refine (long2_no _ la.length c lb.length d A B _ (by simp [go_sem]) (by simp [go_sem]) (by omega) (by omega)).mono ?_
      rintro e w' ⟨rfl, rfl⟩
      go_wp2_with (fail)
      refine (limbMul_no A B c d la lb _ hw1 (ha.next hb1) (hb.next hb1) (by omega) (by omega) (by omega)).mono ?_
      rintro e w2 ⟨A2, c2, rfl, hb2⟩
      have hb2' : Below w.heap.size w w2 := hb1.trans (hb2.mono hb1.size)
      go_wp2_with (fail)
      refine (r3is_no A la.length c _ h1).mono ?_
      rintro e w' ⟨rfl, hw'⟩
      obtain rfl := hw'.symm
      go_wp2_with (fail)
      refine (alive3 _ (hw.below hb2')).mono ?_
      rintro e w9 ⟨rfl, hb9⟩
      go_wp2
      go_ret
      exact ⟨rfl, hb2'.trans (hb9.mono hb2'.size)⟩
    · go_enter Tryd.func5, Tryd.ntmps5
      go_wp2_with (fail)
      refine (long2_no _ la.length c lb.length d A B _ (by simp [go_sem]) (by simp [go_sem]) (by omega) (by omega)).mono ?_
      rintro e w' ⟨rfl, rfl⟩
      go_wp2_with (fail)
      refine (limbMul_no A B c d la lb _ hw1 (ha.next hb1) (hb.next hb1) (by omega) (by omega) (by omega)).mono ?_
      rintro e w2 ⟨A2, c2, rfl, hb2⟩
      have hb2' : Below w.heap.size w w2 := hb1.trans (hb2.mono hb1.size)
      go_wp2_with (fail)
      refine (r3is_yes A la.length c _ h1 h2).mono ?_
      rintro e w' ⟨rfl, hw'⟩
      obtain rfl := hw'.symm
      go_wp2_with (fail)
      refine (r3is_no B lb.length d _ h3).mono ?_
      rintro e w' ⟨rfl, hw'⟩
      obtain rfl := hw'.symm
      go_wp2_with (fail)
      refine (alive3 _ (hw.below hb2')).mono ?_
      rintro e w9 ⟨rfl, hb9⟩
      go_wp2
      go_ret
      exact ⟨rfl, hb2'.trans (hb9.mono hb2'.size)⟩
    · have t1 : decide (8 < (la.length : Int) + (lb.length : Int)) = true := decide_eq_true (by omega)
      go_enter Tryd.func5, Tryd.ntmps5
      go_wp2_with (fail)
      refine (long2_no _ la.length c lb.length d A B _ (by simp [go_sem]) (by simp [go_sem]) (by omega) (by omega)).mono ?_
      rintro e w' ⟨rfl, rfl⟩
      go_wp2_with (fail)
      refine (limbMul_no A B c d la lb _ hw1 (ha.next hb1) (hb.next hb1) (by omega) (by omega) (by omega)).mono ?_
      rintro e w2 ⟨A2, c2, rfl, hb2⟩
      have hb2' : Below w.heap.size w w2 := hb1.trans (hb2.mono hb1.size)
      go_wp2_with (fail)
      refine (r3is_yes A la.length c _ h1 h2).mono ?_
      rintro e w' ⟨rfl, hw'⟩
      obtain rfl := hw'.symm
      go_wp2_with (fail)
      refine (r3is_yes B lb.length d _ h3 h4).mono ?_
      rintro e w' ⟨rfl, hw'⟩
      obtain rfl := hw'.symm
      go_wp2_with (fail)
      refine (alive3 _ (hw.below hb2')).mono ?_
      rintro e w9 ⟨rfl, hb9⟩
      go_wp2
      go_ret
      exact ⟨rfl, hb2'.trans (hb9.mono hb2'.size)⟩
    · have t1 : decide (8 < (la.length : Int) + (lb.length : Int)) = false := decide_eq_false (by omega)
      go_enter Tryd.func5, Tryd.ntmps5
      go_wp2_with (fail)
      refine (long2_no _ la.length c lb.length d A B _ (by simp [go_sem]) (by simp [go_sem]) (by omega) (by omega)).mono ?_
      rintro e w' ⟨rfl, rfl⟩
      go_wp2_with (fail)
      refine (limbMul_yes A B c d la lb _ hw1 (ha.next hb1) (hb.next hb1) h1 h3 h5).mono ?_
      rintro e w2 ⟨A2, c2, rfl, hc2, hs2, hb2⟩
      have hb2' : Below w.heap.size w w2 := hb1.trans (hb2.mono hb1.size)
      go_wp2_with (fail)
      refine (r3is_yes A la.length c _ h1 h2).mono ?_
      rintro e w' ⟨rfl, hw'⟩
      obtain rfl := hw'.symm
      go_wp2_with (fail)
      refine (r3is_yes B lb.length d _ h3 h4).mono ?_
      rintro e w' ⟨rfl, hw'⟩
      obtain rfl := hw'.symm
      go_wp2_with (fail)
      refine (alive3 _ (hw.below hb2')).mono ?_
      rintro e w3 ⟨rfl, hb3⟩
      have hb3' : Below w.heap.size w w3 := hb2'.trans (hb3.mono hb2'.size)
      go_wp2_with (fail)
      refine (r3value_any A c la (fun _ => True) _ _ ((ha.next hb3').sl) ha.us (by omega) (fun _ _ => trivial)).mono ?_
      rintro e w4 ⟨v4, rfl, hn4, hb4⟩
      have hb4' : Below w.heap.size w w4 := hb3'.trans (hb4.mono hb3'.size)
      go_wp2_with (fail)
      refine (r3value_any B d lb (fun _ => True) _ _ ((hb.next hb4').sl) hb.us (by omega) (fun _ _ => trivial)).mono ?_
      rintro e w5 ⟨v5, rfl, hn5, hb5⟩
      have hb5' : Below w.heap.size w w5 := hb4'.trans (hb5.mono hb4'.size)
      go_wp2_with (fail)
      refine (r3mul_any v4 v5 (sv la) (sv lb) _ _ (fun _ => True) _ (hn4.next hb5) hn5 (by omega) (by omega) (fun _ _ => trivial)).mono ?_
      rintro e w6 ⟨v6, rfl, hn6, hb6⟩
      have hb6' : Below w.heap.size w w6 := hb5'.trans (hb6.mono hb5'.size)
      go_wp2_with (fail)
      refine (r3limbs_c _ v6 _ (la.length + lb.length) _ (fun _ => True) _ hn6 (by omega) (by omega) (by omega)).mono ?_
      rintro e w7 ⟨A7, c7, rfl, hc7, hs7, hb7⟩
      have hb7' : Below w.heap.size w w7 := hb6'.trans (hb7.mono hb6'.size)
      go_wp2_with (fail)
      refine (same_t A2 A7 c2 c7 _ _ _ _ _ (((((hs2.next hb3).next hb4).next hb5).next hb6).next hb7) hs7 (by rw [limbs_length]; omega) rfl).mono ?_
      rintro e w' ⟨rfl, n8, rfl⟩
      go_wp2
      go_ret
      exact ⟨rfl, below_drewN' hb7' n8⟩
end Go.Proofs.YtkdiglabjcfjfaaDoor
