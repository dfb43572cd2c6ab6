/-
  Layer 12: the examples, NetworkSizes, NetworkSorts, NetworkZeroOne.
-/
import Derived.Test.YthcckgehlfikcaaDoorNetworkC
namespace Go.Proofs.YthcckgehlfikcaaDoor
open Go.RowKit
set_option maxRecDepth 100000
set_option linter.unusedVariables false
set_option linter.unusedSimpArgs false

theorem comps4 : compsN 4 = [(0, 1), (3, 2), (0, 2), (1, 3), (0, 1), (2, 3)] := by decide +kernel
theorem lit6_pairs (w : World) : (w.alloc (.cells #[.int .i64 0, .int .i64 1, .int .i64 3, .int .i64 2, .int .i64 0, .int .i64 2, .int .i64 1, .int .i64 3, .int .i64 0, .int .i64 1, .int .i64 2, .int .i64 3] 32)).ownsRow w.heap.size 32 2 (.slice (some ⟨w.heap.size, 0, none⟩) 6 6) 6 ([(0, 1), (3, 2), (0, 2), (1, 3), (0, 1), (2, 3)].flatMap pairC) :=
  ⟨rfl, .inr ⟨w.heap.size, 6, _, rfl, Nat.le_refl _, heap_alloc_new w _, Nat.le_refl _, by decide, rfl, rfl⟩⟩
theorem lit4_w (w : World) (x0 x1 x2 x3 : Int) (t : TypeId) : SlR (w.alloc (.cells #[.int .u64 x0, .int .u64 x1, .int .u64 x2, .int .u64 x3] t)) (fun b => b = w.heap.size) .u64 (some ⟨w.heap.size, 0, none⟩) [x0, x1, x2, x3] := fun _ => by
  refine ⟨w.heap.size, 0, rfl, rfl, fun j d hd => ?_⟩
  match j, hd with
  | 0, hd => simp at hd; subst hd; simp [go_sem]
  | 1, hd => simp at hd; subst hd; simp [go_sem]
  | 2, hd => simp at hd; subst hd; simp [go_sem]
  | 3, hd => simp at hd; subst hd; simp [go_sem]
theorem us3120 : Us [3, 1, 2, 0] := by intro x hx; simp at hx; rcases hx with rfl | rfl | rfl | rfl <;> (unfold U; omega)
set_option maxHeartbeats 2000000 in
theorem alive12_any (w : World) (hw : Wts w) : Calls Tryd.prog 9 #[] w fun e w' => e = .returned (.bool true) ∧ Below w.heap.size w w' := by
  go_enter Tryd.func9, Tryd.ntmps9
  go_wp2_with (fail)
  refine (netComparators_c 4 w).mono ?_
  rintro e w1 ⟨v, rfl, hr1, hb1⟩
  rw [comps4] at hr1
  have hb1a := hb1.alloc hb1.size (.cells #[.int .i64 0, .int .i64 1, .int .i64 3, .int .i64 2, .int .i64 0, .int .i64 2, .int .i64 1, .int .i64 3, .int .i64 0, .int .i64 1, .int .i64 2, .int .i64 3] 32)
  go_wp2_with (fail)
  refine (same12_yes _ _ v _ [(0, 1), (3, 2), (0, 2), (1, 3), (0, 1), (2, 3)] _ (hr1.alloc _) (lit6_pairs w1) (by decide)).mono ?_
  rintro e w2 ⟨rfl, hb2⟩
  have h2 := hb1a.trans (hb2.mono hb1a.size)
  clear hr1 hb1a
  go_wp2_with (fail)
  refine (netSize_c 5 8 w2 (by decide +kernel)).mono ?_
  rintro e w3 ⟨rfl, hb3⟩
  have h3 := h2.trans (hb3.mono h2.size)
  go_wp2_with (fail)
  refine (netRounds_c 8 6 w3 (hw.below h3) (by decide +kernel)).mono ?_
  rintro e w4 ⟨rfl, hb4⟩
  have h4 := h3.trans (hb4.mono h3.size)
  have h4a := h4.alloc h4.size (.cells #[.int .u64 3, .int .u64 1, .int .u64 2, .int .u64 0] 38)
  go_wp2_with (fail)
  refine (netApply_c _ 4 4 [3, 1, 2, 0] _ _ (hw.below h4a) (lit4_w w4 3 1 2 0 _) rfl (by omega) us3120).mono ?_
  rintro e w5 ⟨v5, rfl, hown, hb5⟩
  have h5 := h4a.trans (hb5.mono h4a.size)
  rw [show applyN [3, 1, 2, 0] = [0, 1, 2, 3] by decide +kernel] at hown
  obtain ⟨A5, c5, rfl, _, _, hs5⟩ := hown.form
  have h5a := h5.alloc h5.size (.cells #[.int .u64 0, .int .u64 1, .int .u64 2, .int .u64 3] 38)
  have hs5a := hs5.next ((Below.refl _ _).alloc (Nat.le_refl _) (.cells #[.int .u64 0, .int .u64 1, .int .u64 2, .int .u64 3] 38))
  clear hown hs5
  go_wp2_with (fail)
  refine (equalU_n hs5a (lit4_w w5 0 1 2 3 _) rfl rfl (by decide) (by decide) true (by decide)).mono ?_
  rintro e w6 ⟨rfl, hb6⟩
  go_wp2
  go_ret
  exact ⟨rfl, h5a.trans (hb6.mono h5a.size)⟩
theorem law_networkSizes (n : Int) (w : World) (hw : Wts w) : Calls Tryd.prog 3 #[.int .i64 n] w fun e w' => e = .returned (.bool true) ∧ Below w.heap.size w w' := by
  go_enter Tryd.func3, Tryd.ntmps3
  go_wp2_with (fail)
  refine (alive12_any w hw).mono ?_
  rintro e w1 ⟨rfl, hb1⟩
  obtain ⟨r, hr⟩ : ∃ r, sizeN n = r := ⟨_, rfl⟩
  go_wp2_with (fail)
  refine (netSize_c n r w1 hr).mono ?_
  rintro e w2 ⟨rfl, hb2⟩
  have h2 := hb1.trans (hb2.mono hb1.size)
  go_wp2_with (fail)
  refine (ref12Size_any n w2 r hr).mono ?_
  rintro e w3 ⟨rfl, hw3⟩
  obtain rfl := hw3.symm
  have hd : (r == r) = true := beq_self_eq_true _
  go_wp2
  go_ret
  exact ⟨rfl, h2⟩
theorem applyN_yes {xs : List Int} (h : isN xs.length = true) : (applyN xs).Pairwise (· ≤ ·) ∧ (applyN xs).Perm xs := by
  obtain ⟨q, hq, e⟩ := (isN_iff _).1 h
  have e' : xs.length = 2 ^ q := by exact_mod_cast e
  have hl : lgN (xs.length : Int) = q := by rw [e]; exact lgN_pow hq
  unfold applyN
  rw [if_pos h, hl]
  exact ⟨Net.netL_sorted e', Net.netL_perm e'⟩
structure ArgW12 (w : World) (A : Option Addr) (c : Nat) (xs : List Int) : Prop where
  sl : SlR w (fun _ => True) .u64 A xs
  us : Us xs
  cap : xs.length ≤ c
  nil : A = none → c = 0
theorem ArgW12.next {w w' : World} {A : Option Addr} {c : Nat} {xs : List Int} (h : ArgW12 w A c xs) (hb : Below w.heap.size w w') : ArgW12 w' A c xs := ⟨h.sl.next hb, h.us, h.cap, h.nil⟩
set_option maxHeartbeats 2000000 in
theorem law_networkSorts (A : Option Addr) (c : Nat) (xs : List Int) (w : World) (hw : Wts w) (ha : ArgW12 w A c xs) (hml : xs.length ≤ maxLen) :
    Calls Tryd.prog 5 #[.slice A xs.length c] w fun e w' => e = .returned (.bool true) ∧ Below w.heap.size w w' := by
  unfold maxLen at hml
  by_cases hgt : 64 < xs.length
  · go_enter Tryd.func5, Tryd.ntmps5
    go_wp2_with (fail)
    refine (alive12_any w hw).mono ?_
    rintro e w1 ⟨rfl, hb⟩
    go_wp2
    go_ret
    exact ⟨rfl, hb⟩
  · obtain ⟨r, hr⟩ : ∃ r, isN (xs.length : Int) = r := ⟨_, rfl⟩
    have HR := Lib.hid hr
    clear hr
    go_enter Tryd.func5, Tryd.ntmps5
    go_wp2_with (fail)
    refine (cloneU_any A c xs _ w ha.sl (by omega)).mono ?_
    rintro e w1 ⟨v, rfl, hown, hb1⟩
    obtain ⟨A1, c1, rfl, hc1, _, hm⟩ := hown.form
    clear hown
    go_wp2_with (fail)
    refine (netApply_c A xs.length c xs _ w1 (hw.below hb1) (ha.next hb1).sl rfl (by omega) ha.us).mono ?_
    rintro e w2 ⟨v2, rfl, hown2, hb2⟩
    have h2 := hb1.trans (hb2.mono hb1.size)
    have hm2 := hm.next hb2
    obtain ⟨A2, c2, rfl, hc2, _, hs2⟩ := hown2.form
    clear hown2 hm
    obtain ⟨L, hL⟩ : ∃ L, L = (applyN xs).length := ⟨_, rfl⟩
    rw [← hL]
    have HL := Lib.hid hL
    clear hL
    go_wp2_with (fail)
    refine (equalU_n (ha.next h2).sl hm2 rfl rfl (by omega) (by omega) true (by simp)).mono ?_
    rintro e w3 ⟨rfl, hb3⟩
    have h3 := h2.trans (hb3.mono h2.size)
    have hs3 := hs2.next hb3
    clear hm2 hs2
    go_wp2_with (fail)
    refine (ref12Is_any _ w3 r HR.out).mono ?_
    rintro e w4 ⟨rfl, hw4⟩
    obtain rfl := hw4.symm
    cases r with
    | false =>
      have hL0 : ((L : Int) == 0) = true := by
        have := HL.out
        unfold applyN at this
        rw [HR.out] at this
        simp at this
        rw [this]; rfl
      go_wp2_with (fail)
      refine (alive12_any w3 (hw.below h3)).mono ?_
      rintro e w5 ⟨rfl, hb5⟩
      go_wp2
      go_ret
      exact ⟨rfl, h3.trans (hb5.mono h3.size)⟩
    | true =>
      go_wp2_with (fail)
      refine (alive12_any w3 (hw.below h3)).mono ?_
      rintro e w5 ⟨rfl, hb5⟩
      have h5 := h3.trans (hb5.mono h3.size)
      have hs5 := hs3.next hb5
      go_wp2_with (fail)
      refine (ref12Sorted_any A c xs _ w5 (ha.next h5).sl (by omega) ha.us).mono ?_
      rintro e w6 ⟨v6, ys, rfl, hown6, hsrt, hprm, hb6⟩
      have h6 := h5.trans (hb6.mono h5.size)
      have hs6 := hs5.next hb6
      obtain ⟨A6, c6, rfl, hc6, _, hs7⟩ := hown6.form
      have hyl : ys.length = xs.length := hprm.length_eq
      obtain ⟨s1, s2⟩ := applyN_yes HR.out
      have heq : applyN xs = ys := Net.sorted_eq s1 hsrt (s2.trans hprm.symm)
      have HY := Lib.hid hyl
      clear hyl hown6 hsrt hprm s1 s2
      go_wp2_with (fail)
      refine (equalU_n hs6 hs7 HL.out rfl (by have := HL.out; rw [heq] at this; have := HY.out; omega) (by have := HY.out; omega) true (by rw [heq]; simp)).mono ?_
      rintro e w7 ⟨rfl, hb7⟩
      go_wp2
      go_ret
      exact ⟨rfl, h6.trans (hb7.mono h6.size)⟩
end Go.Proofs.YthcckgehlfikcaaDoor
