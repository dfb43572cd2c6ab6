/-
  The walks of the laws of layer 3.
-/
import Derived.Test.YtkdiglabjcfjfaaDoorLimbC
namespace Go.Proofs.YtkdiglabjcfjfaaDoor
open Go.RowKit

theorem SlR.drewN_ {w : World} {S : Nat → Prop} {k : IntKind} {A : Option Addr} {ds : List Int} (h : SlR w S k A ds) (n : Nat) : SlR (w.drewN n) S k A ds := h
def LongRel (N : Nat) (i : Value) : Prop := ∃ k : Nat, i = .int .i64 k ∧ k ≤ N
theorem long1_no (g n c : Nat) (A : Option Addr) (w : World) (h : w.cell? ⟨g, 0, none⟩ = some (.slice A n c)) (hn : n ≤ 50) :
    Calls Tryd.prog 10 #[.slice (some ⟨g, 0, none⟩) 1 1] w fun e w' => e = .returned (.bool false) ∧ w' = w := by
  go_enter Tryd.func10, Tryd.ntmps10
  go_wp2
  go_loop [7] (fun i => LongRel 1 i) (fun i => 1 - (intOf i).toNat)
  case atStart => exact ⟨0, rfl, by decide⟩
  case round =>
    obtain ⟨k, rfl, hk⟩ := hrel
    by_cases h0 : k < 1
    · have hk0 : k = 0 := by omega
      subst hk0
      go_wp2
      go_round
      case rel => exact ⟨1, rfl, by decide⟩
      case measure => simp [intOf]
    · have hk1 : k = 1 := by omega
      subst hk1
      go_wp2
      go_ret
      exact ⟨rfl, rfl⟩
theorem long1_yes (g n c : Nat) (A : Option Addr) (w : World) (h : w.cell? ⟨g, 0, none⟩ = some (.slice A n c)) (hn : 50 < n) :
    Calls Tryd.prog 10 #[.slice (some ⟨g, 0, none⟩) 1 1] w fun e w' => e = .returned (.bool true) ∧ w' = w := by
  go_enter Tryd.func10, Tryd.ntmps10
  go_wp2
  go_loop [7] (fun i => i = .int .i64 0) (fun i => 1 - (intOf i).toNat)
  case atStart => rfl
  case round =>
    subst hrel
    go_wp2
    go_ret
    exact ⟨rfl, rfl⟩
theorem long2_no (g n c m d : Nat) (A B : Option Addr) (w : World) (h : w.cell? ⟨g, 0, none⟩ = some (.slice A n c)) (h2 : w.cell? ⟨g, 1, none⟩ = some (.slice B m d)) (hn : n ≤ 50) (hm : m ≤ 50) :
    Calls Tryd.prog 10 #[.slice (some ⟨g, 0, none⟩) 2 2] w fun e w' => e = .returned (.bool false) ∧ w' = w := by
  go_enter Tryd.func10, Tryd.ntmps10
  go_wp2
  go_loop [7] (fun i => LongRel 2 i) (fun i => 2 - (intOf i).toNat)
  case atStart => exact ⟨0, rfl, by decide⟩
  case round =>
    obtain ⟨k, rfl, hk⟩ := hrel
    by_cases h0 : k < 2
    · have hk0 : k = 0 ∨ k = 1 := by omega
      rcases hk0 with rfl | rfl
      · go_wp2
        go_round
        case rel => exact ⟨1, rfl, by decide⟩
        case measure => simp [intOf]
      · go_wp2
        go_round
        case rel => exact ⟨2, rfl, by decide⟩
        case measure => simp [intOf]
    · have hk1 : k = 2 := by omega
      subst hk1
      go_wp2
      go_ret
      exact ⟨rfl, rfl⟩
theorem long2_yes (g n c m d : Nat) (A B : Option Addr) (w : World) (h : w.cell? ⟨g, 0, none⟩ = some (.slice A n c)) (h2 : w.cell? ⟨g, 1, none⟩ = some (.slice B m d)) (hn : 50 < n ∨ 50 < m) :
    Calls Tryd.prog 10 #[.slice (some ⟨g, 0, none⟩) 2 2] w fun e w' => e = .returned (.bool true) ∧ w' = w := by
  go_enter Tryd.func10, Tryd.ntmps10
  go_wp2
  go_loop [7] (fun i => ∃ k : Nat, i = .int .i64 k ∧ k ≤ 1 ∧ (k = 1 → n ≤ 50)) (fun i => 2 - (intOf i).toNat)
  case atStart => exact ⟨0, rfl, by decide, fun h => by cases h⟩
  case round =>
    obtain ⟨k, rfl, hk, hk1⟩ := hrel
    have hk0 : k = 0 ∨ k = 1 := by omega
    rcases hk0 with rfl | rfl
    · clear hk1
      by_cases hn1 : 50 < n
      · go_wp2
        go_ret
        exact ⟨rfl, rfl⟩
      · have hn2 : n ≤ 50 := by omega
        clear hn1
        go_wp2
        go_round
        case rel => exact ⟨1, rfl, by decide, fun _ => hn2⟩
        case measure => simp [intOf]
    · have hm : 50 < m := by have := hk1 rfl; omega
      clear hk1 hn
      go_wp2
      go_ret
      exact ⟨rfl, rfl⟩
theorem lit2 (w : World) (a b : Int) (t : TypeId) (S : Nat → Prop) (hS : S w.heap.size) : SlR (w.alloc (.cells #[.int .u64 a, .int .u64 b] t)) S .u64 (some ⟨w.heap.size, 0, none⟩) [a, b] := fun _ => by
  refine ⟨w.heap.size, 0, rfl, hS, fun j d hd => ?_⟩
  match j, hd with
  | 0, hd => simp at hd; subst hd; simp [go_sem]
  | 1, hd => simp at hd; subst hd; simp [go_sem]
theorem us2 {a b : Int} (ha : U a) (hb : U b) : Us [a, b] := Us.mk ha (Us.mk hb fun _ h => by cases h)
theorem same_t (A B : Option Addr) (c d : Nat) (xs ys : List Int) (SA SB : Nat → Prop) (w : World) (ha : SlR w SA .u64 A xs) (hb : SlR w SB .u64 B ys) (hl : xs.length ≤ 1000000) (h : xs = ys) :
    Calls Tryd.prog 14 #[.slice A xs.length c, .slice B ys.length d] w fun e w' => e = .returned (.bool true) ∧ ∃ n, w' = w.drewN n :=
  (r3same_any A B c d xs ys SA SB w ha hb hl).mono fun _ _ ⟨he, hn⟩ => ⟨by rw [he, h, sameB_self], hn⟩
theorem sign_lit (A : Option Addr) (c : Nat) (a b s : Int) (w : World) (hw : Wts w) (hs : SlR w (fun _ => True) .u64 A [a, b]) (ha : U a) (hb : U b) (hc : 2 ≤ c) (h : (sv [a, b]).sign = s) :
    Calls Tryd.prog 28 #[.slice A 2 c] w fun e w' => e = .returned (.int .i64 s) ∧ Below w.heap.size w w' := by
  subst h
  exact limbSign_yes A c [a, b] w hw ⟨hs, us2 ha hb, hc⟩ (by simp) (by simp)
set_option maxHeartbeats 1000000 in
/-- The results of the calls that the examples make. -/
theorem alive3 (w : World) (hw : Wts w) : Calls Tryd.prog 11 #[] w fun e w' => e = .returned (.bool true) ∧ Below w.heap.size w w' := by
  go_enter Tryd.func11, Tryd.ntmps11
  go_wp2_with (fail)
  refine (limbFrom_yes (-1) 2 _ hw (by unfold S; omega) (by decide) (by decide)).mono ?_
  rintro e w1 ⟨A1, c1, rfl, hc1, hs1, hb1⟩
  have hw1 := hw.below hb1
  go_wp2_with (fail)
  refine (same_t A1 _ c1 2 (limbs 2 (-1)) [18446744073709551615, 18446744073709551615] _ (fun _ => True) _ (hs1.next (Below.alloc (Below.refl _ _) (Nat.le_refl _) _)) (lit2 _ _ _ _ _ trivial) (by decide) (by decide)).mono ?_
  rintro e w' ⟨rfl, n2, rfl⟩
  have hb2 : Below w.heap.size w ((w1.alloc (.cells #[.int .u64 18446744073709551615, .int .u64 18446744073709551615] 43)).drewN n2) := below_drewN' (hb1.alloc hb1.size _) n2
  go_wp2_with (fail)
  refine (limbFrom_yes (-2) 1 _ (hw.below hb2) (by unfold S; omega) (by decide) (by decide)).mono ?_
  rintro e w3 ⟨A3, c3, rfl, hc3, hs3, hb3⟩
  have hb3' : Below w.heap.size w w3 := hb2.trans (hb3.mono hb2.size)
  go_wp2_with (fail)
  refine (limbFrom_yes 3 1 _ (hw.below hb3') (by unfold S; omega) (by decide) (by decide)).mono ?_
  rintro e w4 ⟨A4, c4, rfl, hc4, hs4, hb4⟩
  have hb4' : Below w.heap.size w w4 := hb3'.trans (hb4.mono hb3'.size)
  go_wp2_with (fail)
  refine (limbMul_yes A3 A4 c3 c4 (limbs 1 (-2)) (limbs 1 3) _ (hw.below hb4') ⟨(hs3.next hb4).imp fun _ _ => trivial, limbs_us _ _, hc3⟩ ⟨hs4.imp fun _ _ => trivial, limbs_us _ _, hc4⟩ (by decide) (by decide) (by decide)).mono ?_
  rintro e w5 ⟨A5, c5, rfl, hc5, hs5, hb5⟩
  have hb5' : Below w.heap.size w w5 := hb4'.trans (hb5.mono hb4'.size)
  go_wp2_with (fail)
  refine (same_t A5 _ c5 2 _ [18446744073709551610, 18446744073709551615] _ (fun _ => True) _ (hs5.next (Below.alloc (Below.refl _ _) (Nat.le_refl _) _)) (lit2 _ _ _ _ _ trivial) (by decide) (by decide)).mono ?_
  rintro e w' ⟨rfl, n6, rfl⟩
  have hb6 : Below w.heap.size w (((w5.alloc (.cells #[.int .u64 18446744073709551610, .int .u64 18446744073709551615] 43)).drewN n6).alloc (.cells #[.int .u64 0, .int .u64 9223372036854775808] 43)) := by
    have h := below_drewN' (hb5'.alloc hb5'.size (.cells #[.int .u64 18446744073709551610, .int .u64 18446744073709551615] 43)) n6
    exact h.alloc h.size _
  go_wp2_with (fail)
  have hl : SlR (((w5.alloc (.cells #[.int .u64 18446744073709551610, .int .u64 18446744073709551615] 43)).drewN n6).alloc (.cells #[.int .u64 0, .int .u64 9223372036854775808] 43)) (fun _ => True) .u64 (some ⟨w5.heap.size + 1, 0, none⟩) [0, 9223372036854775808] := by
    have h := lit2 ((w5.alloc (.cells #[.int .u64 18446744073709551610, .int .u64 18446744073709551615] 43)).drewN n6) 0 9223372036854775808 43 (fun _ => True) trivial
    have e : ((w5.alloc (.cells #[.int .u64 18446744073709551610, .int .u64 18446744073709551615] 43)).drewN n6).heap.size = w5.heap.size + 1 := by show (w5.alloc _).heap.size = _; simp
    rw [e] at h
    exact h
  refine (sign_lit _ 2 0 9223372036854775808 (-1) _ (hw.below hb6) hl (by unfold U; omega) (by unfold U; omega) (by decide) (by decide)).mono ?_
  rintro e w8 ⟨rfl, hb8⟩
  go_wp2
  go_ret
  exact ⟨rfl, hb6.trans (hb8.mono hb6.size)⟩
theorem arg1 {w : World} {A : Option Addr} {c : Nat} {ls : List Int} (h : Arg w A c ls) (B : Option Addr) (m d : Nat) : Arg (w.alloc (.cells #[.slice B m d] 22)) A c ls := h.next (Below.alloc (Below.refl _ _) (Nat.le_refl _) _)
set_option maxHeartbeats 2000000 in
theorem law_limbConverts (x : Int) (A : Option Addr) (c : Nat) (la : List Int) (n : Int) (w : World) (hw : Wts w) (hx : S x) (ha : Arg w A c la) (hn : S n) :
    Calls Tryd.prog 3 #[.int .i64 x, .slice A la.length c, .int .i64 n] w fun e w' => e = .returned (.bool true) ∧ Below w.heap.size w w' := by
  have hb1 : Below w.heap.size w (w.alloc (.cells #[.slice A la.length c] 22)) := (Below.refl _ _).alloc (Nat.le_refl _) _
  have hw1 := hw.below hb1
  rcases Nat.lt_or_ge 50 la.length with hlong | hshort
  · go_enter Tryd.func3, Tryd.ntmps3
    go_wp2_with (fail)
    refine (long1_yes _ la.length c A _ (by simp [go_sem]) hlong).mono ?_
    rintro e w' ⟨rfl, rfl⟩
    go_wp2_with (fail)
    refine (alive3 _ hw1).mono ?_
    rintro e w2 ⟨rfl, hb2⟩
    go_wp2
    go_ret
    exact ⟨rfl, hb1.trans (hb2.mono hb1.size)⟩
  · by_cases hrange : 1 ≤ n ∧ n ≤ 8
    · obtain ⟨hr1, hr8⟩ := hrange
      obtain ⟨N, rfl⟩ := Int.eq_ofNat_of_zero_le (show 0 ≤ n by omega)
      have t1 : decide ((N : Int) < 1) = false := decide_eq_false (by omega)
      have t2 : decide (8 < (N : Int)) = false := decide_eq_false (by omega)
      by_cases his : 1 ≤ la.length ∧ la.length ≤ 8
      · obtain ⟨hi1, hi8⟩ := his
        go_enter Tryd.func3, Tryd.ntmps3
        go_wp2_with (fail)
        refine (long1_no _ la.length c A _ (by simp [go_sem]) hshort).mono ?_
        rintro e w' ⟨rfl, rfl⟩
        go_wp2_with (fail)
        refine (limbFrom_yes x N _ hw1 hx (by omega) (by omega)).mono ?_
        rintro e w2 ⟨A2, c2, rfl, hc2, hs2, hb2⟩
        have hb2' : Below w.heap.size w w2 := hb1.trans (hb2.mono hb1.size)
        go_wp2_with (fail)
        refine (limbExtend_yes A c la N _ (hw.below hb2') (ha.next hb2') hi1 hi8 (by omega) (by omega)).mono ?_
        rintro e w3 ⟨A3, c3, rfl, hc3, hs3, hb3⟩
        have hb3' : Below w.heap.size w w3 := hb2'.trans (hb3.mono hb2'.size)
        go_wp2_with (fail)
        refine (r3int_any x (fun _ => True) _ (fun _ _ => trivial) hx).mono ?_
        rintro e w4 ⟨v4, rfl, hn4, hb4⟩
        have hb4' : Below w.heap.size w w4 := hb3'.trans (hb4.mono hb3'.size)
        go_wp2_with (fail)
        refine (r3limbs_any v4 x N 4 (fun _ => True) _ hn4 (by decide) (by omega)).mono ?_
        rintro e w5 ⟨A5, c5, rfl, hc5, hs5, hb5⟩
        have hb5' : Below w.heap.size w w5 := hb4'.trans (hb5.mono hb4'.size)
        go_wp2_with (fail)
        refine (same_t A2 A5 c2 c5 (limbs N x) (limbs N x) _ _ _ (((hs2.next hb3).next hb4).next hb5) hs5 (by rw [limbs_length]; omega) rfl).mono ?_
        rintro e w' ⟨rfl, n6, rfl⟩
        have hb6' := below_drewN' hb5' n6
        go_wp2_with (fail)
        refine (r3is_yes A la.length c _ hi1 hi8).mono ?_
        rintro e w' ⟨rfl, hw'⟩
        obtain rfl := hw'.symm
        go_wp2_with (fail)
        refine (alive3 _ (hw.below hb6')).mono ?_
        rintro e w7 ⟨rfl, hb7⟩
        have hb7' : Below w.heap.size w w7 := hb6'.trans (hb7.mono hb6'.size)
        go_wp2_with (fail)
        refine (r3value_any A c la (fun _ => True) _ _ ((ha.next hb7').sl) ha.us (by omega) (fun _ _ => trivial)).mono ?_
        rintro e w8 ⟨v8, rfl, hn8, hb8⟩
        have hb8' : Below w.heap.size w w8 := hb7'.trans (hb8.mono hb7'.size)
        go_wp2_with (fail)
        refine (r3limbs_any v8 (sv la) N _ (fun _ => True) _ hn8 (by omega) (by omega)).mono ?_
        rintro e w9 ⟨A9, c9, rfl, hc9, hs9, hb9⟩
        have hb9' : Below w.heap.size w w9 := hb8'.trans (hb9.mono hb8'.size)
        have hs3' := ((((hs3.next hb4).next hb5).drewN_ n6).next hb7).next hb8
        go_wp2_with (fail)
        refine (same_t A3 A9 c3 c9 (limbs N (sv la)) (limbs N (sv la)) _ _ _ (hs3'.next hb9) hs9 (by rw [limbs_length]; omega) rfl).mono ?_
        rintro e w' ⟨rfl, n10, rfl⟩
        go_wp2
        go_ret
        exact ⟨rfl, below_drewN' hb9' n10⟩
      · have hno : la.length < 1 ∨ 8 < la.length := by omega
        go_enter Tryd.func3, Tryd.ntmps3
        go_wp2_with (fail)
        refine (long1_no _ la.length c A _ (by simp [go_sem]) hshort).mono ?_
        rintro e w' ⟨rfl, rfl⟩
        go_wp2_with (fail)
        refine (limbFrom_yes x N _ hw1 hx (by omega) (by omega)).mono ?_
        rintro e w2 ⟨A2, c2, rfl, hc2, hs2, hb2⟩
        have hb2' : Below w.heap.size w w2 := hb1.trans (hb2.mono hb1.size)
        go_wp2_with (fail)
        refine (limbExtend_no A c la (N : Int) _ (hw.below hb2') (ha.next hb2') (by omega) hn (by omega)).mono ?_
        rintro e w3 ⟨A3, c3, rfl, hb3⟩
        have hb3' : Below w.heap.size w w3 := hb2'.trans (hb3.mono hb2'.size)
        go_wp2_with (fail)
        refine (r3int_any x (fun _ => True) _ (fun _ _ => trivial) hx).mono ?_
        rintro e w4 ⟨v4, rfl, hn4, hb4⟩
        have hb4' : Below w.heap.size w w4 := hb3'.trans (hb4.mono hb3'.size)
        go_wp2_with (fail)
        refine (r3limbs_any v4 x N 4 (fun _ => True) _ hn4 (by decide) (by omega)).mono ?_
        rintro e w5 ⟨A5, c5, rfl, hc5, hs5, hb5⟩
        have hb5' : Below w.heap.size w w5 := hb4'.trans (hb5.mono hb4'.size)
        go_wp2_with (fail)
        refine (same_t A2 A5 c2 c5 (limbs N x) (limbs N x) _ _ _ (((hs2.next hb3).next hb4).next hb5) hs5 (by rw [limbs_length]; omega) rfl).mono ?_
        rintro e w' ⟨rfl, n6, rfl⟩
        have hb6' := below_drewN' hb5' n6
        go_wp2_with (fail)
        refine (r3is_no A la.length c _ (by omega)).mono ?_
        rintro e w' ⟨rfl, hw'⟩
        obtain rfl := hw'.symm
        go_wp2_with (fail)
        refine (alive3 _ (hw.below hb6')).mono ?_
        rintro e w7 ⟨rfl, hb7⟩
        go_wp2
        go_ret
        exact ⟨rfl, hb6'.trans (hb7.mono hb6'.size)⟩
    · have hr : n < 1 ∨ 8 < n := by omega
      go_enter Tryd.func3, Tryd.ntmps3
      go_wp2_with (fail)
      refine (long1_no _ la.length c A _ (by simp [go_sem]) hshort).mono ?_
      rintro e w' ⟨rfl, rfl⟩
      go_wp2_with (fail)
      refine (limbFrom_no x n _ hw1 hx hn hr).mono ?_
      rintro e w2 ⟨A2, c2, rfl, hb2⟩
      have hb2' : Below w.heap.size w w2 := hb1.trans (hb2.mono hb1.size)
      go_wp2_with (fail)
      refine (limbExtend_no A c la n _ (hw.below hb2') (ha.next hb2') (by omega) hn (.inr (.inr hr))).mono ?_
      rintro e w3 ⟨A3, c3, rfl, hb3⟩
      have hb3' : Below w.heap.size w w3 := hb2'.trans (hb3.mono hb2'.size)
      by_cases h1 : n < 1
      · go_wp2_with (fail)
        refine (alive3 _ (hw.below hb3')).mono ?_
        rintro e w4 ⟨rfl, hb4⟩
        go_wp2
        go_ret
        exact ⟨rfl, hb3'.trans (hb4.mono hb3'.size)⟩
      · have h2 : 8 < n := by omega
        have h3 : decide (n < 1) = false := decide_eq_false h1
        clear h1
        go_wp2_with (fail)
        refine (alive3 _ (hw.below hb3')).mono ?_
        rintro e w4 ⟨rfl, hb4⟩
        go_wp2
        go_ret
        exact ⟨rfl, hb3'.trans (hb4.mono hb3'.size)⟩
end Go.Proofs.YtkdiglabjcfjfaaDoor
