/-
  The walks of the laws of layer 3, fourth part.
-/
import Derived.Test.YtkdiglabjcfjfaaDoorLaw3c
namespace Go.Proofs.YtkdiglabjcfjfaaDoor
open Go.RowKit

theorem num_field (s : Int) (A : Option Addr) (n c : Nat) (w : World) : (Instr.field 31 (.agg #[.int .i64 s, .slice A n c]) 0).run Tryd.prog w = .ok (.int .i64 s) w := by kernel_rfl
theorem cmp_cases (n m : Nat) : (n = 0 ∨ 8 < n) ∨ (1 ≤ n ∧ n ≤ 8 ∧ n = m) ∨ (1 ≤ n ∧ n ≤ 8 ∧ n ≠ m) := by omega
set_option maxHeartbeats 2000000 in
theorem law_limbCompares (A B : Option Addr) (c d : Nat) (la lb : List Int) (w : World) (hw : Wts w) (ha : Arg w A c la) (hb : Arg w B d lb) :
    Calls Tryd.prog 6 #[.slice A la.length c, .slice B lb.length d] w fun e w' => e = .returned (.bool true) ∧ Below w.heap.size w w' := by
  have hb1 : Below w.heap.size w (w.alloc (.cells #[.slice A la.length c, .slice B lb.length d] 22)) := (Below.refl _ _).alloc (Nat.le_refl _) _
  have hw1 := hw.below hb1
  by_cases hlong : 50 < la.length ∨ 50 < lb.length
  · go_enter Tryd.func6, Tryd.ntmps6
    go_wp2_with (fail)
    refine (long2_yes _ la.length c lb.length d A B _ (by simp [go_sem]) (by simp [go_sem]) hlong).mono ?_
    rintro e w' ⟨rfl, rfl⟩
    go_wp2_with (fail)
    refine (alive3 _ (hw.below hb1)).mono ?_
    rintro e w2 ⟨rfl, hb2⟩
    have hb2' : Below w.heap.size w w2 := hb1.trans (hb2.mono hb1.size)
    go_wp2
    go_ret
    exact ⟨rfl, hb2'⟩
  · rcases cmp_cases la.length lb.length with h1 | ⟨h1, h2, h3⟩ | ⟨h1, h2, h3⟩
    · go_enter Tryd.func6, Tryd.ntmps6
      go_wp2_with (fail)
      refine (long2_no _ la.length c lb.length d A B _ (by simp [go_sem]) (by simp [go_sem]) (by omega) (by omega)).mono ?_
      rintro e w' ⟨rfl, rfl⟩
      go_wp2_with (fail)
      refine (r3is_no A la.length c _ h1).mono ?_
      rintro e w' ⟨rfl, hw'⟩
      obtain rfl := hw'.symm
      go_wp2_with (fail)
      refine (alive3 _ (hw.below hb1)).mono ?_
      rintro e w2 ⟨rfl, hb2⟩
      have hb2' : Below w.heap.size w w2 := hb1.trans (hb2.mono hb1.size)
      go_wp2_with (fail)
      refine (limbSign_no A c la _ (hw.below hb2') (ha.next hb2') (by omega) (by omega)).mono ?_
      rintro e w3 ⟨rfl, hb3⟩
      have hb3' : Below w.heap.size w w3 := hb2'.trans (hb3.mono hb2'.size)
      go_wp2_with (fail)
      refine (limbCompare_no A B c d la lb _ (hw.below hb3') (ha.next hb3') (hb.next hb3') (by omega) (by omega) (by omega)).mono ?_
      rintro e w4 ⟨rfl, hb4⟩
      have hb4' : Below w.heap.size w w4 := hb3'.trans (hb4.mono hb3'.size)
      go_wp2
      go_ret
      exact ⟨rfl, hb4'⟩
    · have hfd := num_field
      have t1 : ((la.length : Int) == (lb.length : Int)) = true := by rw [beq_iff_eq]; omega
      have HL := Lib.hid h3
      have hl2 : lb.length ≤ 8 := by omega
      clear h3
      go_enter Tryd.func6, Tryd.ntmps6
      go_wp2_with (fail)
      refine (long2_no _ la.length c lb.length d A B _ (by simp [go_sem]) (by simp [go_sem]) (by omega) (by omega)).mono ?_
      rintro e w' ⟨rfl, rfl⟩
      go_wp2_with (fail)
      refine (r3is_yes A la.length c _ h1 h2).mono ?_
      rintro e w' ⟨rfl, hw'⟩
      obtain rfl := hw'.symm
      go_wp2_with (fail)
      refine (r3value_any A c la (fun _ => True) _ _ ((ha.next hb1).sl) ha.us (by omega) (fun _ _ => trivial)).mono ?_
      rintro e w2 ⟨v2, rfl, hn2, hb2⟩
      have hb2' : Below w.heap.size w w2 := hb1.trans (hb2.mono hb1.size)
      have hn2' := hn2
      obtain ⟨Z2, z2, d2, rfl, _⟩ := hn2
      go_wp2_with (fail)
      refine (r3value_any A c la (fun _ => True) _ _ ((ha.next hb2').sl) ha.us (by omega) (fun _ _ => trivial)).mono ?_
      rintro e w3 ⟨v3, rfl, hn3, hb3⟩
      have hb3' : Below w.heap.size w w3 := hb2'.trans (hb3.mono hb2'.size)
      have hn3' := hn3
      obtain ⟨Z3, z3, d3, rfl, _⟩ := hn3
      go_wp2_with (fail)
      refine (r3value_any B d lb (fun _ => True) _ _ ((hb.next hb3').sl) hb.us (by omega) (fun _ _ => trivial)).mono ?_
      rintro e w4 ⟨v4, rfl, hn4, hb4⟩
      have hb4' : Below w.heap.size w w4 := hb3'.trans (hb4.mono hb3'.size)
      have hn4' := hn4
      obtain ⟨Z4, z4, d4, rfl, _⟩ := hn4
      go_wp2_with (fail)
      refine (r3sub_any _ _ (sv la) (sv lb) _ _ (fun _ => True) _ (hn3'.next hb4) hn4' (by omega) (by omega) (fun _ _ => trivial)).mono ?_
      rintro e w5 ⟨v5, rfl, hn5, hb5⟩
      have hb5' : Below w.heap.size w w5 := hb4'.trans (hb5.mono hb4'.size)
      have hn5' := hn5
      obtain ⟨Z5, z5, d5, rfl, _⟩ := hn5
      go_wp2_with (fail)
      refine (alive3 _ (hw.below hb5')).mono ?_
      rintro e w6 ⟨rfl, hb6⟩
      have hb6' : Below w.heap.size w w6 := hb5'.trans (hb6.mono hb5'.size)
      go_wp2_with (fail)
      refine (limbSign_yes A c la _ (hw.below hb6') (ha.next hb6') h1 h2).mono ?_
      rintro e w7 ⟨rfl, hb7⟩
      have hb7' : Below w.heap.size w w7 := hb6'.trans (hb7.mono hb6'.size)
      go_wp2_with (fail)
      refine (limbCompare_yes A B c d la lb _ (hw.below hb7') (ha.next hb7') (hb.next hb7') h1 h2 HL.out).mono ?_
      rintro e w8 ⟨rfl, hb8⟩
      have hb8' : Below w.heap.size w w8 := hb7'.trans (hb8.mono hb7'.size)
      go_wp2
      go_ret
      exact ⟨rfl, hb8'⟩
    · have hfd := num_field
      have t1 : ((la.length : Int) == (lb.length : Int)) = false := by rw [beq_eq_false_iff_ne]; omega
      go_enter Tryd.func6, Tryd.ntmps6
      go_wp2_with (fail)
      refine (long2_no _ la.length c lb.length d A B _ (by simp [go_sem]) (by simp [go_sem]) (by omega) (by omega)).mono ?_
      rintro e w' ⟨rfl, rfl⟩
      go_wp2_with (fail)
      refine (r3is_yes A la.length c _ h1 h2).mono ?_
      rintro e w' ⟨rfl, hw'⟩
      obtain rfl := hw'.symm
      go_wp2_with (fail)
      refine (r3value_any A c la (fun _ => True) _ _ ((ha.next hb1).sl) ha.us (by omega) (fun _ _ => trivial)).mono ?_
      rintro e w2 ⟨v2, rfl, hn2, hb2⟩
      have hb2' : Below w.heap.size w w2 := hb1.trans (hb2.mono hb1.size)
      have hn2' := hn2
      obtain ⟨Z2, z2, d2, rfl, _⟩ := hn2
      go_wp2_with (fail)
      refine (alive3 _ (hw.below hb2')).mono ?_
      rintro e w3 ⟨rfl, hb3⟩
      have hb3' : Below w.heap.size w w3 := hb2'.trans (hb3.mono hb2'.size)
      go_wp2_with (fail)
      refine (limbSign_yes A c la _ (hw.below hb3') (ha.next hb3') h1 h2).mono ?_
      rintro e w4 ⟨rfl, hb4⟩
      have hb4' : Below w.heap.size w w4 := hb3'.trans (hb4.mono hb3'.size)
      go_wp2_with (fail)
      refine (limbCompare_no A B c d la lb _ (hw.below hb4') (ha.next hb4') (hb.next hb4') (by omega) (by omega) (by omega)).mono ?_
      rintro e w5 ⟨rfl, hb5⟩
      have hb5' : Below w.heap.size w w5 := hb4'.trans (hb5.mono hb4'.size)
      go_wp2
      go_ret
      exact ⟨rfl, hb5'⟩
theorem fits_cases (n : Nat) (k : Int) : (n = 0 ∨ 8 < n) ∨ (1 ≤ n ∧ n ≤ 8 ∧ k < 1) ∨ (1 ≤ n ∧ n ≤ 8 ∧ 1 ≤ k ∧ 8 < k) ∨ (1 ≤ n ∧ n ≤ 8 ∧ 1 ≤ k ∧ k ≤ 8) := by omega
set_option maxHeartbeats 2000000 in
theorem law_limbFits (A : Option Addr) (c : Nat) (la : List Int) (n : Int) (w : World) (hw : Wts w) (ha : Arg w A c la) (hn : S n) :
    Calls Tryd.prog 8 #[.slice A la.length c, .int .i64 n] w fun e w' => e = .returned (.bool true) ∧ Below w.heap.size w w' := by
  have hb1 : Below w.heap.size w (w.alloc (.cells #[.slice A la.length c] 22)) := (Below.refl _ _).alloc (Nat.le_refl _) _
  have hw1 := hw.below hb1
  rcases Nat.lt_or_ge 50 la.length with hlong | hshort
  · go_enter Tryd.func8, Tryd.ntmps8
    go_wp2_with (fail)
    refine (long1_yes _ la.length c A _ (by simp [go_sem]) hlong).mono ?_
    rintro e w' ⟨rfl, rfl⟩
    go_wp2_with (fail)
    refine (alive3 _ (hw.below hb1)).mono ?_
    rintro e w2 ⟨rfl, hb2⟩
    have hb2' : Below w.heap.size w w2 := hb1.trans (hb2.mono hb1.size)
    go_wp2
    go_ret
    exact ⟨rfl, hb2'⟩
  · rcases fits_cases la.length n with h1 | ⟨h1, h2, h3⟩ | ⟨h1, h2, h3, h4⟩ | ⟨h1, h2, h3, h4⟩
    · go_enter Tryd.func8, Tryd.ntmps8
      go_wp2_with (fail)
      refine (long1_no _ la.length c A _ (by simp [go_sem]) hshort).mono ?_
      rintro e w' ⟨rfl, rfl⟩
      go_wp2_with (fail)
      refine (limbFits_no A c la n _ hw1 (ha.next hb1) (by omega) hn (by omega)).mono ?_
      rintro e w2 ⟨rfl, hb2⟩
      have hb2' : Below w.heap.size w w2 := hb1.trans (hb2.mono hb1.size)
      go_wp2_with (fail)
      refine (r3is_no A la.length c _ h1).mono ?_
      rintro e w' ⟨rfl, hw'⟩
      obtain rfl := hw'.symm
      go_wp2_with (fail)
      refine (alive3 _ (hw.below hb2')).mono ?_
      rintro e w3 ⟨rfl, hb3⟩
      have hb3' : Below w.heap.size w w3 := hb2'.trans (hb3.mono hb2'.size)
      go_wp2
      go_ret
      exact ⟨rfl, hb3'⟩
    · go_enter Tryd.func8, Tryd.ntmps8
      go_wp2_with (fail)
      refine (long1_no _ la.length c A _ (by simp [go_sem]) hshort).mono ?_
      rintro e w' ⟨rfl, rfl⟩
      go_wp2_with (fail)
      refine (limbFits_no A c la n _ hw1 (ha.next hb1) (by omega) hn (by omega)).mono ?_
      rintro e w2 ⟨rfl, hb2⟩
      have hb2' : Below w.heap.size w w2 := hb1.trans (hb2.mono hb1.size)
      go_wp2_with (fail)
      refine (r3is_yes A la.length c _ h1 h2).mono ?_
      rintro e w' ⟨rfl, hw'⟩
      obtain rfl := hw'.symm
      go_wp2_with (fail)
      refine (alive3 _ (hw.below hb2')).mono ?_
      rintro e w3 ⟨rfl, hb3⟩
      have hb3' : Below w.heap.size w w3 := hb2'.trans (hb3.mono hb2'.size)
      go_wp2
      go_ret
      exact ⟨rfl, hb3'⟩
    · have t1 : decide (n < 1) = false := decide_eq_false (by omega)
      go_enter Tryd.func8, Tryd.ntmps8
      go_wp2_with (fail)
      refine (long1_no _ la.length c A _ (by simp [go_sem]) hshort).mono ?_
      rintro e w' ⟨rfl, rfl⟩
      go_wp2_with (fail)
      refine (limbFits_no A c la n _ hw1 (ha.next hb1) (by omega) hn (by omega)).mono ?_
      rintro e w2 ⟨rfl, hb2⟩
      have hb2' : Below w.heap.size w w2 := hb1.trans (hb2.mono hb1.size)
      go_wp2_with (fail)
      refine (r3is_yes A la.length c _ h1 h2).mono ?_
      rintro e w' ⟨rfl, hw'⟩
      obtain rfl := hw'.symm
      go_wp2_with (fail)
      refine (alive3 _ (hw.below hb2')).mono ?_
      rintro e w3 ⟨rfl, hb3⟩
      have hb3' : Below w.heap.size w w3 := hb2'.trans (hb3.mono hb2'.size)
      go_wp2
      go_ret
      exact ⟨rfl, hb3'⟩
    · obtain ⟨N, rfl⟩ := Int.eq_ofNat_of_zero_le (show 0 ≤ n by omega)
      have t1 : decide ((N : Int) < 1) = false := decide_eq_false (by omega)
      have t2 : decide (8 < (N : Int)) = false := decide_eq_false (by omega)
      go_enter Tryd.func8, Tryd.ntmps8
      go_wp2_with (fail)
      refine (long1_no _ la.length c A _ (by simp [go_sem]) hshort).mono ?_
      rintro e w' ⟨rfl, rfl⟩
      go_wp2_with (fail)
      refine (limbFits_yes A c la N _ hw1 (ha.next hb1) h1 h2 (by omega) (by omega)).mono ?_
      rintro e w2 ⟨rfl, hb2⟩
      have hb2' : Below w.heap.size w w2 := hb1.trans (hb2.mono hb1.size)
      go_wp2_with (fail)
      refine (r3is_yes A la.length c _ h1 h2).mono ?_
      rintro e w' ⟨rfl, hw'⟩
      obtain rfl := hw'.symm
      go_wp2_with (fail)
      refine (alive3 _ (hw.below hb2')).mono ?_
      rintro e w3 ⟨rfl, hb3⟩
      have hb3' : Below w.heap.size w w3 := hb2'.trans (hb3.mono hb2'.size)
      go_wp2_with (fail)
      refine (r3value_any A c la (fun _ => True) _ _ ((ha.next hb3').sl) ha.us (by omega) (fun _ _ => trivial)).mono ?_
      rintro e w4 ⟨v4, rfl, hn4, hb4⟩
      have hb4' : Below w.heap.size w w4 := hb3'.trans (hb4.mono hb3'.size)
      have hn4' := hn4
      obtain ⟨Z4, z4, d4, rfl, _⟩ := hn4
      go_wp2_with (fail)
      refine (r3fits_any _ (sv la) N _ (fun _ => True) _ hn4' (by omega) (by omega)).mono ?_
      rintro e w5 ⟨rfl, hb5⟩
      have hb5' : Below w.heap.size w w5 := hb4'.trans (hb5.mono hb4'.size)
      go_wp2_with (fail)
      refine (refMask_any _ _).mono ?_
      rintro e w' ⟨rfl, hw'⟩
      obtain rfl := hw'.symm
      go_wp2
      go_ret
      exact ⟨rfl, hb5'⟩
end Go.Proofs.YtkdiglabjcfjfaaDoor
