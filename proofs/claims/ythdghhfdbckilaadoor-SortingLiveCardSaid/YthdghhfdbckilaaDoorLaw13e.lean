/-
  Layer 13: SortingLive. (Written by law13d.py.)
-/
import Derived.Test.YthdghhfdbckilaaDoorLaw13d
namespace Go.Proofs.YthdghhfdbckilaaDoor
open Go.RowKit Go.Maps
set_option maxRecDepth 100000
set_option linter.unusedVariables false
set_option linter.unusedSimpArgs false

set_option maxHeartbeats 2000000 in
theorem law_sortingLive (A : Option Addr) (c : Nat) (l : List Rc) (w : World) (hw : Wts w) (ha : ArgR w A c l) :
    Calls Tryd.prog 8 #[.slice A l.length c] w fun e w' => e = .returned (.bool true) ∧ Below w.heap.size w w' := by
  by_cases hgt : 100 < l.length
  · go_enter Tryd.func8, Tryd.ntmps8
    go_wp2_with (fail)
    refine (alive13_any w hw).mono ?_
    rintro e w1 ⟨rfl, hb⟩
    go_wp2
    go_ret
    exact ⟨rfl, hb⟩
  · obtain ⟨n, hn⟩ : ∃ n, n = liveN l := ⟨_, rfl⟩
    have hnl : n ≤ l.length := by rw [hn]; exact liveN_le l
    have HN := Lib.hid hn
    have HSL := Lib.hid (sortR_len l)
    have HAT := Lib.hid (fun (i : Nat) (hi : i < (sortR l).length) => sortR_at (fun r hr => (ha.us r hr).2) hi)
    have HID := Lib.hid (fun (i : Nat) (hi : i + 1 < (sortR l).length) (hl : i + 1 < liveN l) => sortR_ids (fun r hr => (ha.us r hr).2) hi hl)
    clear hn
    go_enter Tryd.func8, Tryd.ntmps8
    go_wp2_with (fail)
    refine (sortCount_n (r := (n : Int)) hw ha.row rfl (by omega) ha.us (by rw [HN.out])).mono ?_
    rintro e w1 ⟨rfl, hb1⟩
    go_wp2_with (fail)
    refine (sortSort_n (hw.below hb1) (ha.next hb1).row rfl (by omega) ha.us).mono ?_
    rintro e w2 ⟨A2, c2, rfl, _, hrow2, hn2, hb2⟩
    have h2 := hb1.trans (hb2.mono hb1.size)
    go_wp2
    go_loopw [17] (fun i wr => ∃ k : Nat, i = .int .i64 k ∧ k ≤ l.length ∧ Below w2.heap.size w2 wr) (fun i _ => l.length - (intOf i).toNat)
    case atStart => exact ⟨0, rfl, Nat.zero_le _, Below.refl _ _⟩
    case round =>
      obtain ⟨k, rfl, hk, hb⟩ := hrel
      by_cases hgo : k < l.length
      · obtain ⟨b, o, rfl, _, k0, k1⟩ := (hrow2.next hb).rec_ (show k < (sortR l).length by rw [HSL.out]; exact hgo)
        have hat := HAT.out k (by rw [HSL.out]; exact hgo)
        rw [← HN.out] at hat
        obtain ⟨X, hX⟩ : ∃ X, X = (sortR l)[k]'(by rw [HSL.out]; exact hgo) := ⟨_, rfl⟩
        rw [← hX] at k0 k1 hat
        have hz : IntKind.u64.wrap (k : Int) = (k : Int) := wrap_u64' (by omega) (by omega)
        have h3 := hb.alloc hb.size (.cells #[.int .u64 X.live, .int .u64 X.id] 24)
        clear hX hrow2
        by_cases hlt : k < n
        · rw [if_pos hlt] at hat
          rw [hat] at k0 h3
          have d1 : decide ((k : Int) < (n : Int)) = true := decide_eq_true (by omega)
          have d2 : decide ((n : Int) ≤ (k : Int)) = false := decide_eq_false (by omega)
          clear hat
          go_wp2
          exact ⟨⟨k + 1, by go_num, hgo, h3⟩, by simp [intOf]; omega⟩
        · rw [if_neg hlt] at hat
          subst hat
          have d1 : decide ((k : Int) < (n : Int)) = false := decide_eq_false (by omega)
          have d2 : decide ((n : Int) ≤ (k : Int)) = true := decide_eq_true (by omega)
          go_wp2
          exact ⟨⟨k + 1, by go_num, hgo, h3⟩, by simp [intOf]; omega⟩
      · obtain rfl : k = l.length := by omega
        have h3 := h2.trans (hb.mono h2.size)
        clear hrow2
        go_wp2_with (fail)
        refine (sortSort_n (hw.below h3) (ha.next h3).row rfl (by omega) ha.us).mono ?_
        rintro e w4 ⟨A4, c4, rfl, _, hrow4, hn4, hb4⟩
        have h4 := h3.trans (hb4.mono h3.size)
        go_wp2
        go_loopw [47] (fun i wr => ∃ k q : Nat, i = .int .i64 k ∧ k ≤ l.length ∧ wr = w4.drewN q) (fun i _ => l.length - (intOf i).toNat)
        case atStart => exact ⟨0, 0, rfl, Nat.zero_le _, rfl⟩
        case round =>
          obtain ⟨k, q, rfl, hk, rfl⟩ := hrel
          by_cases hgo : k < l.length
          · have hz : IntKind.u64.wrap (k : Int) = (k : Int) := wrap_u64' (by omega) (by omega)
            by_cases h0 : k = 0
            · subst h0
              go_wp2_with (fail)
              go_quiet (fail)
              go_wp2
              exact ⟨⟨1, _, rfl, by omega, rfl⟩, by simp [intOf]; omega⟩
            · obtain ⟨j, hj⟩ : ∃ j, k = j + 1 := ⟨k - 1, by omega⟩
              have d0 : decide (0 < k) = true := decide_eq_true (by omega)
              by_cases hlt : k < n
              · obtain ⟨b, o, rfl, -, -, k1⟩ := hrow4.rec_ (show j < (sortR l).length by rw [HSL.out]; omega)
                obtain ⟨b', o', e, -, -, k3⟩ := hrow4.rec_ (show j + 1 < (sortR l).length by rw [HSL.out]; omega)
                injection e with e
                injection e with e1 e2
                subst e1 e2
                have hid := HID.out j (by rw [HSL.out, ← hj]; exact hgo) (by rw [← HN.out, ← hj]; exact hlt)
                generalize (sortR l)[j]'_ = X at k1 hid
                generalize (sortR l)[j + 1]'_ = Y at k3 hid
                rw [← hj] at k3
                have d1 : decide ((k : Int) < (n : Int)) = true := decide_eq_true (by omega)
                have d2 : decide (Y.id < X.id) = false := decide_eq_false (by omega)
                have e1 : IntKind.i64.wrap ((k : Int) - 1) = (j : Int) := by rw [wrap_s]; omega
                have hjl : j < l.length := by omega
                clear hrow4 hid hj h0
                go_wp2_with (fail)
                go_quiet (fail)
                go_wp2
                exact ⟨⟨k + 1, _, by go_num, by omega, rfl⟩, by simp [intOf]; omega⟩
              · have d1 : decide ((k : Int) < (n : Int)) = false := decide_eq_false (by omega)
                clear hrow4 hj h0
                go_wp2_with (fail)
                go_quiet (fail)
                go_wp2
                exact ⟨⟨k + 1, _, by go_num, by omega, rfl⟩, by simp [intOf]; omega⟩
          · obtain rfl : k = l.length := by omega
            clear hrow4
            have h5 := below_drewN' h4 q
            go_wp2_with (fail)
            refine (alive13_any _ (hw.below h5)).mono ?_
            rintro e w6 ⟨rfl, hb6⟩
            go_wp2
            go_ret
            exact ⟨rfl, h5.trans (hb6.mono h5.size)⟩
end Go.Proofs.YthdghhfdbckilaaDoor
