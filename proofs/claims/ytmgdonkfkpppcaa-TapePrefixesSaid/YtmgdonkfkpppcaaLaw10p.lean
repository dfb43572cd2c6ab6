/-
  Layer 10: law TapePrefixes.
-/
import Derived.Test.YtmgdonkfkpppcaaLaw10
import Derived.Test.YtmgdonkfkpppcaaEvA
namespace Go.Proofs.Ytmgdonkfkpppcaa
open Go.RowKit Go.Maps
set_option maxRecDepth 100000
set_option linter.unusedVariables false
set_option linter.unusedSimpArgs false

theorem firstD_pre (l m : List Ev) : firstD l (l ++ m) = if m = [] then -1 else (l.length : Int) := by
  have h := firstD_append l [] m
  rw [List.append_nil] at h
  rw [h]
  cases m with
  | nil => rfl
  | cons e m => rfl
theorem pre_eq (l m : List Ev) : decide (l ++ m = l) = decide (m = []) := by
  rw [decide_eq_decide]
  exact ⟨fun h => List.append_right_eq_self.1 h, fun h => by rw [h, List.append_nil]⟩
set_option maxHeartbeats 1000000 in
theorem law_tapePrefixes (A B : Option Addr) (c d : Nat) (l m : List Ev) (w : World) (ha : EvsR w (fun _ => True) A l) (hb : EvsR w (fun _ => True) B m) (hA : A = none → c = 0) (hB : B = none → d = 0) (hw : WfE l) (hw2 : WfE m) (hml : l.length ≤ maxLen) (hmm : m.length ≤ maxLen) :
    Calls Try.prog 8 #[.slice A l.length c, .slice B m.length d] w fun e w' => e = .returned (.bool true) ∧ Below w.heap.size w w' := by
  unfold maxLen at hml hmm
  by_cases hgt : l.length ≤ 1000 ∧ m.length ≤ 1000
  · obtain ⟨hg1, hg2⟩ := hgt
    have hw3 : WfE (l ++ m) := fun e he => (List.mem_append.1 he).elim (hw e) (hw2 e)
    have hll : (l ++ m).length ≤ 2000 := by rw [List.length_append]; omega
    obtain ⟨L, hL⟩ : ∃ L, L = l ++ m := ⟨_, rfl⟩
    rw [← hL] at hw3 hll
    have HL := Lib.hid hL
    clear hL
    by_cases he : m = []
    · have HE := Lib.hid he
      have d0 : ((m.length : Int) == 0) = true := by rw [he]; rfl
      clear he
      have d1 : ((l.length : Int) == (l.length : Int)) = true := beq_self_eq_true _
      go_enter Try.func8, Try.ntmps8
      go_wp2_with (fail)
      refine (record_any A c l _ w ha (by omega) hw).mono ?_
      rintro e w1 ⟨tb, rfl, ht, hb1⟩
      have hrow0 := row_new w1
      go_wp2_with (first
        | (at_builtin; refine wp_app_ev rfl _ _ rfl w1.heap.size _ 0 [] rfl hrow0 A c l (fun _ => True) rfl ((ha.next hb1).next ((Below.refl _ _).alloc (Nat.le_refl _) _)) hA (by omega) (by simp) ?_
           clear hrow0
           intro v1 w2 hrow1 hgrow1
           have hb2 : Below w1.heap.size w1 w2 := ((Below.refl _ _).alloc (Nat.le_refl _) _).grown hgrow1 (by simp) (fun k e => by injection e with e; exact Nat.le_of_eq e)
           have h2 := hb1.trans (hb2.mono hb1.size)
           rw [Nat.zero_add, List.nil_append] at hrow1
           have HV := Lib.hid (fun k e => (hrow1.lt k e).1))
        | (at_builtin; refine wp_app_ev rfl _ _ rfl w1.heap.size _ l.length (l.flatMap evC) rfl hrow1 B d m (fun _ => True) rfl (hb.next h2) hB (by omega) hb2.size ?_
           clear hrow1
           intro v2 w3 hrow2 hgrow2
           have hb3 : Below w1.heap.size w1 w3 := hb2.grown hgrow2 hb2.size HV.out
           have h3 := hb1.trans (hb3.mono hb1.size)
           rw [← List.flatMap_append, ← List.length_append, ← HL.out] at hrow2
           obtain ⟨A', c', rfl, _, _, hev⟩ := own_evs hrow2))
      have ht := ht.next hb3
      refine (record_any A' c' L _ w3 hev (by omega) hw3).mono ?_
      rintro e w4 ⟨tc, rfl, hu, hb4⟩
      have h4 := h3.trans (hb4.mono h3.size)
      have ht := ht.next hb4
      go_wp2_with (fail)
      refine (alive10_any w4).mono ?_
      rintro e w5 ⟨rfl, hb5⟩
      have h5 := h4.trans (hb5.mono h4.size)
      have ht := ht.next hb5
      have hu := hu.next hb5
      go_wp2_with (fail)
      refine (tapeFirst_r (r := -1) ht.o hu.o (by omega) (by omega) (by rw [HL.out, firstD_pre]; rw [if_pos HE.out])).mono ?_
      rintro e w6 ⟨rfl, hb6⟩
      have h6 := h5.trans (hb6.mono h5.size)
      have ht := ht.next hb6
      have hu := hu.next hb6
      go_wp2_with (fail)
      refine (tapeEqual_any _ _ L l true _ _ w6 hu.o ht.o (by omega) (by omega) (by rw [HL.out, pre_eq]; exact decide_eq_true HE.out)).mono ?_
      rintro e w7 ⟨rfl, hb7⟩
      go_wp2
      go_ret
      exact ⟨rfl, h6.trans (hb7.mono h6.size)⟩
    · have HE := Lib.hid he
      have d0 : ((m.length : Int) == 0) = false := by rw [beq_eq_false_iff_ne]; have : m.length ≠ 0 := fun h => he (List.length_eq_zero_iff.1 h); omega
      clear he
      have d1 : ((l.length : Int) == (l.length : Int)) = true := beq_self_eq_true _
      go_enter Try.func8, Try.ntmps8
      go_wp2_with (fail)
      refine (record_any A c l _ w ha (by omega) hw).mono ?_
      rintro e w1 ⟨tb, rfl, ht, hb1⟩
      have hrow0 := row_new w1
      go_wp2_with (first
        | (at_builtin; refine wp_app_ev rfl _ _ rfl w1.heap.size _ 0 [] rfl hrow0 A c l (fun _ => True) rfl ((ha.next hb1).next ((Below.refl _ _).alloc (Nat.le_refl _) _)) hA (by omega) (by simp) ?_
           clear hrow0
           intro v1 w2 hrow1 hgrow1
           have hb2 : Below w1.heap.size w1 w2 := ((Below.refl _ _).alloc (Nat.le_refl _) _).grown hgrow1 (by simp) (fun k e => by injection e with e; exact Nat.le_of_eq e)
           have h2 := hb1.trans (hb2.mono hb1.size)
           rw [Nat.zero_add, List.nil_append] at hrow1
           have HV := Lib.hid (fun k e => (hrow1.lt k e).1))
        | (at_builtin; refine wp_app_ev rfl _ _ rfl w1.heap.size _ l.length (l.flatMap evC) rfl hrow1 B d m (fun _ => True) rfl (hb.next h2) hB (by omega) hb2.size ?_
           clear hrow1
           intro v2 w3 hrow2 hgrow2
           have hb3 : Below w1.heap.size w1 w3 := hb2.grown hgrow2 hb2.size HV.out
           have h3 := hb1.trans (hb3.mono hb1.size)
           rw [← List.flatMap_append, ← List.length_append, ← HL.out] at hrow2
           obtain ⟨A', c', rfl, _, _, hev⟩ := own_evs hrow2))
      have ht := ht.next hb3
      refine (record_any A' c' L _ w3 hev (by omega) hw3).mono ?_
      rintro e w4 ⟨tc, rfl, hu, hb4⟩
      have h4 := h3.trans (hb4.mono h3.size)
      have ht := ht.next hb4
      go_wp2_with (fail)
      refine (alive10_any w4).mono ?_
      rintro e w5 ⟨rfl, hb5⟩
      have h5 := h4.trans (hb5.mono h4.size)
      have ht := ht.next hb5
      have hu := hu.next hb5
      go_wp2_with (fail)
      refine (tapeFirst_r (r := l.length) ht.o hu.o (by omega) (by omega) (by rw [HL.out, firstD_pre]; rw [if_neg HE.out])).mono ?_
      rintro e w6 ⟨rfl, hb6⟩
      have h6 := h5.trans (hb6.mono h5.size)
      have ht := ht.next hb6
      have hu := hu.next hb6
      go_wp2_with (fail)
      refine (tapeEqual_any _ _ L l false _ _ w6 hu.o ht.o (by omega) (by omega) (by rw [HL.out, pre_eq]; exact decide_eq_false HE.out)).mono ?_
      rintro e w7 ⟨rfl, hb7⟩
      go_wp2
      go_ret
      exact ⟨rfl, h6.trans (hb7.mono h6.size)⟩
  · by_cases hg : 1000 < l.length
    · go_enter Try.func8, Try.ntmps8
      go_wp2_with (fail)
      refine (alive10_any w).mono ?_
      rintro e w1 ⟨rfl, hb⟩
      go_wp2
      go_ret
      exact ⟨rfl, hb⟩
    · have hg2 : 1000 < m.length := by omega
      go_enter Try.func8, Try.ntmps8
      go_wp2_with (fail)
      refine (alive10_any w).mono ?_
      rintro e w1 ⟨rfl, hb⟩
      go_wp2
      go_ret
      exact ⟨rfl, hb⟩
end Go.Proofs.Ytmgdonkfkpppcaa
