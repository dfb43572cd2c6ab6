/-
  Layer 11: the examples, ArrayReads, ArrayCounts, ArrayCombines.
-/
import Derived.Test.YtknldcogmbbgjaaDoorArrayC
namespace Go.Proofs.YtknldcogmbbgjaaDoor
open Go.RowKit Go.Maps
set_option maxRecDepth 100000
set_option linter.unusedVariables false
set_option linter.unusedSimpArgs false

/-- A slice of words that is handed over. -/
structure ArgW (w : World) (A : Option Addr) (c : Nat) (xs : List Int) : Prop where
  sl : SlR w (fun _ => True) .u64 A xs
  us : Us xs
  cap : xs.length ≤ c
  nil : A = none → c = 0
theorem ArgW.next {w w' : World} {A : Option Addr} {c : Nat} {xs : List Int} (h : ArgW w A c xs) (hb : Below w.heap.size w w') : ArgW w' A c xs := ⟨h.sl.next hb, h.us, h.cap, h.nil⟩
theorem lit3_w (w : World) (x y z : Int) (t : TypeId) : SlR (w.alloc (.cells #[.int .u64 x, .int .u64 y, .int .u64 z] t)) (fun b => b = w.heap.size) .u64 (some ⟨w.heap.size, 0, none⟩) [x, y, z] := fun _ => by
  refine ⟨w.heap.size, 0, rfl, rfl, fun j d hd => ?_⟩
  match j, hd with
  | 0, hd => simp at hd; subst hd; simp [go_sem]
  | 1, hd => simp at hd; subst hd; simp [go_sem]
  | 2, hd => simp at hd; subst hd; simp [go_sem]
theorem us578 : Us [5, 8, 7] := by intro x hx; simp at hx; rcases hx with rfl | rfl | rfl <;> (unfold U; omega)
set_option maxHeartbeats 1000000 in
theorem alive11_any (w : World) (hw : Wts w) : Calls Tryd.prog 9 #[] w fun e w' => e = .returned (.bool true) ∧ Below w.heap.size w w' := by
  have hb0 : Below w.heap.size w (w.alloc (.cells #[.int .u64 5, .int .u64 8, .int .u64 7] 23)) := (Below.refl _ _).alloc (Nat.le_refl _) _
  have hs0 := lit3_w w 5 8 7 23
  obtain ⟨W0, hW0⟩ : ∃ W0, W0 = w.alloc (.cells #[.int .u64 5, .int .u64 8, .int .u64 7] 23) := ⟨_, rfl⟩
  have hsz : W0.heap.size = w.heap.size + 1 := by rw [hW0]; simp
  rw [← hW0] at hb0 hs0
  have HW0 := Lib.hid hW0
  clear hW0
  go_enter Tryd.func9, Tryd.ntmps9
  go_wp2_with (fail)
  rw [← HW0.out]
  refine (tapeNew_any W0).mono ?_
  rintro e w1 ⟨tb, rfl, ht, hb1⟩
  have h1 := hb0.trans (hb1.mono hb0.size)
  have hs1 := hs0.next hb1
  clear HW0
  go_wp2_with (fail)
  refine (arrRead_c (some ⟨tb, 0, none⟩) [] _ _ _ 3 3 [5, 8, 7] 1 8 w1 (fun W hm => hw.below (hm.below h1 (fun g hg => by have hg : W0.heap.size ≤ g := hg; omega) h1.size)) ht.o (by simp) hs1 (fun g hg h => by have hg : g = w.heap.size := hg; have h : W0.heap.size ≤ g := h; omega) rfl (by decide) us578 (by unfold U; omega) (by decide)).mono ?_
  rintro e w2 ⟨rfl, ht2, hm2⟩
  have h2 := hm2.below h1 (fun g hg => by have hg : W0.heap.size ≤ g := hg; omega) h1.size
  have hs2 := hs1.keep (fun b o hb hlt => hm2.cell (p := ⟨b, o, none⟩) hlt (fun h => by have hb : b = w.heap.size := hb; have h : W0.heap.size ≤ b := h; omega))
  clear hm2 hs1 ht
  have hw2 := hw.below h2
  go_wp2_with (fail)
  refine (arrRead_n (r := 0) hw2 hs2 rfl (by decide) us578 (by unfold U; omega) (by decide)).mono ?_
  rintro e w3 ⟨rfl, hb3⟩
  go_wp2_with (fail)
  refine (arrCount_n (r := 2) (hw2.below hb3) (hs2.next hb3) rfl (by decide) us578 (by decide)).mono ?_
  rintro e w4 ⟨rfl, hb4⟩
  have hb4 := hb3.trans (hb4.mono hb3.size)
  go_wp2_with (fail)
  refine (arrFirst_n (r := 0) (hw2.below hb4) (hs2.next hb4) rfl (by decide) us578 (by decide)).mono ?_
  rintro e w5 ⟨rfl, hb5⟩
  have hb5 := hb4.trans (hb5.mono hb4.size)
  go_wp2_with (fail)
  refine (arrAll_n (r := 0) (hw2.below hb5) (hs2.next hb5) rfl (by decide) us578 (by decide +kernel)).mono ?_
  rintro e w6 ⟨rfl, hb6⟩
  have hb6 := hb5.trans (hb6.mono hb5.size)
  go_wp2_with (fail)
  refine (arrSome_n (r := 15) (hw2.below hb6) (hs2.next hb6) rfl (by decide) us578 (by decide +kernel)).mono ?_
  rintro e w7 ⟨rfl, hb7⟩
  have hb7 := hb6.trans (hb7.mono hb6.size)
  go_wp2_with (fail)
  refine (tapeLen_any _ _ _ _ (ht2.next hb7) (by simp [addT, evR])).mono ?_
  rintro e w8 ⟨rfl, hb8⟩
  rw [show (addT (.pointer (some ⟨tb, 0, none⟩)) [] (evR 1 3)).length = 3 from rfl]
  go_wp2
  go_ret
  exact ⟨rfl, h2.trans ((hb7.trans (hb8.mono hb7.size)).mono h2.size)⟩
set_option maxHeartbeats 1000000 in
theorem law_arrayReads (A : Option Addr) (c : Nat) (xs : List Int) (i : Int) (w : World) (hw : Wts w) (ha : ArgW w A c xs) (hi : U i) (hml : xs.length ≤ maxLen) :
    Calls Tryd.prog 3 #[.slice A xs.length c, .int .u64 i] w fun e w' => e = .returned (.bool true) ∧ Below w.heap.size w w' := by
  unfold maxLen at hml
  by_cases hgt : 500 < xs.length
  · go_enter Tryd.func3, Tryd.ntmps3
    go_wp2_with (fail)
    refine (alive11_any w hw).mono ?_
    rintro e w1 ⟨rfl, hb⟩
    go_wp2
    go_ret
    exact ⟨rfl, hb⟩
  · go_enter Tryd.func3, Tryd.ntmps3
    go_wp2_with (fail)
    refine (cloneU_any A c xs _ w ha.sl (by omega)).mono ?_
    rintro e w1 ⟨v, rfl, hown, hb1⟩
    obtain ⟨A1, c1, rfl, hc1, _, hm⟩ := hown.form
    go_wp2_with (fail)
    refine (alive11_any w1 (hw.below hb1)).mono ?_
    rintro e w2 ⟨rfl, hb2⟩
    have h2 := hb1.trans (hb2.mono hb1.size)
    have hm2 := hm.next hb2
    go_wp2_with (fail)
    obtain ⟨r, hr⟩ : ∃ r, rdL xs i = r := ⟨_, rfl⟩
    refine (arrRead_n (r := r) (hw.below h2) (ha.next h2).sl rfl (by omega) ha.us hi hr).mono ?_
    rintro e w3 ⟨rfl, hb3⟩
    have h3 := h2.trans (hb3.mono h2.size)
    have hm3 := hm2.next hb3
    go_wp2_with (fail)
    refine (ref11Read_any A c xs i r _ w3 (ha.next h3).sl (by omega) hi hr).mono ?_
    rintro e w4 ⟨rfl, hw4⟩
    obtain rfl := hw4.symm
    have hd : (r == r) = true := beq_self_eq_true _
    go_wp2_with (fail)
    refine (equalU_any A A1 c c1 xs xs _ _ w3 (ha.next h3).sl hm3 (by omega) (by omega) true (by simp)).mono ?_
    rintro e w5 ⟨rfl, hb5⟩
    go_wp2
    go_ret
    exact ⟨rfl, h3.trans (hb5.mono h3.size)⟩
theorem any_first {xs : List Int} : decide (0 < cntO xs) = decide (fstO xs < xs.length) := by
  rw [decide_eq_decide]
  unfold cntO fstO
  rw [List.countP_pos_iff, List.findIdx_lt_length]
set_option maxHeartbeats 1000000 in
theorem law_arrayCounts (A : Option Addr) (c : Nat) (xs : List Int) (w : World) (hw : Wts w) (ha : ArgW w A c xs) (hml : xs.length ≤ maxLen) :
    Calls Tryd.prog 5 #[.slice A xs.length c] w fun e w' => e = .returned (.bool true) ∧ Below w.heap.size w w' := by
  unfold maxLen at hml
  by_cases hgt : 500 < xs.length
  · go_enter Tryd.func5, Tryd.ntmps5
    go_wp2_with (fail)
    refine (alive11_any w hw).mono ?_
    rintro e w1 ⟨rfl, hb⟩
    go_wp2
    go_ret
    exact ⟨rfl, hb⟩
  · go_enter Tryd.func5, Tryd.ntmps5
    obtain ⟨n, hn⟩ : ∃ n : Int, (cntO xs : Int) = n := ⟨_, rfl⟩
    obtain ⟨f, hf⟩ : ∃ f : Int, (fstO xs : Int) = f := ⟨_, rfl⟩
    have hnf : (decide (0 < n) == decide (f < (xs.length : Int))) = true := by
      have := any_first (xs := xs)
      rw [decide_eq_decide] at this
      rw [beq_iff_eq, decide_eq_decide]; omega
    have hz := wrap_u64' (x := (xs.length : Int)) (by omega) (by omega)
    go_wp2_with (fail)
    refine (arrCount_n (r := n) hw ha.sl rfl (by omega) ha.us hn).mono ?_
    rintro e w1 ⟨rfl, hb1⟩
    go_wp2_with (fail)
    refine (arrFirst_n (r := f) (hw.below hb1) (ha.next hb1).sl rfl (by omega) ha.us hf).mono ?_
    rintro e w2 ⟨rfl, hb2⟩
    have h2 := hb1.trans (hb2.mono hb1.size)
    go_wp2_with (fail)
    refine (alive11_any w2 (hw.below h2)).mono ?_
    rintro e w3 ⟨rfl, hb3⟩
    have h3 := h2.trans (hb3.mono h2.size)
    go_wp2_with (fail)
    refine (ref11Count_any A c xs n _ w3 (ha.next h3).sl (by omega) ha.us hn).mono ?_
    rintro e w4 ⟨rfl, hw4⟩
    obtain rfl := hw4.symm
    have hd1 : (n == n) = true := beq_self_eq_true _
    go_wp2_with (fail)
    refine (ref11First_any A c xs f _ w3 (ha.next h3).sl (by omega) ha.us hf).mono ?_
    rintro e w5 ⟨rfl, hw5⟩
    obtain rfl := hw5.symm
    have hd2 : (f == f) = true := beq_self_eq_true _
    go_wp2
    go_ret
    exact ⟨rfl, h3⟩
theorem fold_snoc (op : BinOp) (z : Int) (l : List Int) (k : Nat) (h : k < l.length) : (l.take (k + 1)).foldl (fun m x => bits op .u64 m x) z = bits op .u64 ((l.take k).foldl (fun m x => bits op .u64 m x) z) (l[k]'h) := by
  rw [List.take_succ_eq_append_getElem h, List.foldl_append]; rfl
set_option maxHeartbeats 1000000 in
theorem law_arrayCombines (A : Option Addr) (c : Nat) (xs : List Int) (w : World) (hw : Wts w) (ha : ArgW w A c xs) (hml : xs.length ≤ maxLen) :
    Calls Tryd.prog 6 #[.slice A xs.length c] w fun e w' => e = .returned (.bool true) ∧ Below w.heap.size w w' := by
  unfold maxLen at hml
  by_cases hgt : 500 < xs.length
  · go_enter Tryd.func6, Tryd.ntmps6
    go_wp2_with (fail)
    refine (alive11_any w hw).mono ?_
    rintro e w1 ⟨rfl, hb⟩
    go_wp2
    go_ret
    exact ⟨rfl, hb⟩
  · go_enter Tryd.func6, Tryd.ntmps6
    go_wp2
    go_loop [3, 4, 13] (fun m o i => ∃ k : Nat, i = .int .i64 k ∧ k ≤ xs.length ∧ m = .int .u64 (andL (xs.take k)) ∧ o = .int .u64 (orL (xs.take k))) (fun _ _ i => xs.length - (intOf i).toNat)
    case atStart => exact ⟨0, rfl, Nat.zero_le _, rfl, rfl⟩
    case round =>
      obtain ⟨k, rfl, hk, rfl, rfl⟩ := hrel
      by_cases hgo : k < xs.length
      · obtain ⟨b, o, rfl, _, hc⟩ := ha.sl.at_ hgo
        have HA := Lib.hid (fold_snoc .and 18446744073709551615 xs k hgo)
        have HO := Lib.hid (fold_snoc .or 0 xs k hgo)
        clear ha
        go_wp2
        go_round
        case rel => exact ⟨k + 1, by go_num, hgo, congrArg (Value.int .u64) HA.out.symm, congrArg (Value.int .u64) HO.out.symm⟩
        case measure => simp [intOf]; omega
      · have HE := Lib.hid (show xs.take k = xs from List.take_of_length_le (by omega))
        rw [HE.out]
        obtain ⟨r, hr⟩ : ∃ r, andL xs = r := ⟨_, rfl⟩
        obtain ⟨q, hq⟩ : ∃ q, orL xs = q := ⟨_, rfl⟩
        rw [hr, hq]
        have hd1 : (r == r) = true := beq_self_eq_true _
        have hd2 : (q == q) = true := beq_self_eq_true _
        go_wp2_with (fail)
        refine (alive11_any w hw).mono ?_
        rintro e w1 ⟨rfl, hb1⟩
        go_wp2_with (fail)
        refine (arrAll_n (r := r) (hw.below hb1) (ha.next hb1).sl rfl (by omega) ha.us hr).mono ?_
        rintro e w2 ⟨rfl, hb2⟩
        have h2 := hb1.trans (hb2.mono hb1.size)
        go_wp2_with (fail)
        refine (arrSome_n (r := q) (hw.below h2) (ha.next h2).sl rfl (by omega) ha.us hq).mono ?_
        rintro e w3 ⟨rfl, hb3⟩
        go_wp2
        go_ret
        exact ⟨rfl, h2.trans (hb3.mono h2.size)⟩
end Go.Proofs.YtknldcogmbbgjaaDoor
