/-
  The laws of layer 4, first part: alive, Formats, Parses.
-/
import Derived.Test.YtpdmpmlieligoaaDoorDecC
namespace Go.Proofs.YtpdmpmlieligoaaDoor
open Go.RowKit

theorem parsed_lit1 : parsed [57, 50, 50, 51, 51, 55, 50, 48, 51, 54, 56, 53, 52, 55, 55, 53, 56, 48, 56] 1 = ([], 3) :=
  parsed_range (x := 9223372036854775808) (by decide) (by decide) (by decide +kernel) (by decide +kernel)
theorem parsed_lit2 : parsed [45, 48] 1 = ([], 9) := parsed_none (by decide) (by decide) (by decide +kernel)
theorem decN_lit (l : List UInt8) (n : Nat) (hd : (l.all fun c => 48 ≤ c && c ≤ 57) = true) (h1 : l ≠ []) (h2 : l.head? ≠ some 48) (hv : valN l = n) : decN n = l := by
  rw [← hv]
  exact decN_valN (digs_all.1 hd) ⟨h1, fun e => absurd e h2⟩
theorem decL_lit1 : decL (sv [0, 1]) = [49, 56, 52, 52, 54, 55, 52, 52, 48, 55, 51, 55, 48, 57, 53, 53, 49, 54, 49, 54] := by
  have e : sv [0, 1] = 18446744073709551616 := by decide +kernel
  rw [e]
  unfold decL
  rw [if_neg (by decide)]
  exact decN_lit _ _ (by decide +kernel) (by decide) (by decide) (by decide +kernel)
theorem decL_lit2 : decL (sv [18446744073709551611, 18446744073709551615, 18446744073709551615]) = [45, 53] := by
  have e : sv [18446744073709551611, 18446744073709551615, 18446744073709551615] = -5 := by decide +kernel
  rw [e]
  unfold decL
  rw [if_pos (by decide)]
  congr 1
  exact decN_lit _ _ (by decide +kernel) (by decide) (by decide) (by decide +kernel)
theorem decParse_lit1 (w : World) (hw : Wts w) : Calls Tryd.prog 12 #[.string ⟨#[57, 50, 50, 51, 51, 55, 50, 48, 51, 54, 56, 53, 52, 55, 55, 53, 56, 48, 56]⟩, .int .i64 1] w (GivesP w [] 3) := by
  have h := decParse_any [57, 50, 50, 51, 51, 55, 50, 48, 51, 54, 56, 53, 52, 55, 55, 53, 56, 48, 56] 1 w hw (by decide) (by unfold S; omega)
  rw [parsed_lit1] at h
  exact h
theorem decParse_lit2 (w : World) (hw : Wts w) : Calls Tryd.prog 12 #[.string ⟨#[45, 48]⟩, .int .i64 1] w (GivesP w [] 9) := by
  have h := decParse_any [45, 48] 1 w hw (by decide) (by unfold S; omega)
  rw [parsed_lit2] at h
  exact h
theorem decFormat_lit (cs : List Int) (t : List UInt8) (w : World) (hw : Wts w) (hu : Us cs) (l1 : 1 ≤ cs.length) (l8 : cs.length ≤ 8) (ht : decL (sv cs) = t) (A : Option Addr) (ha : SlR w (fun _ => True) .u64 A cs) :
    Calls Tryd.prog 10 #[.slice A cs.length cs.length] w (GivesStr w t) := by
  rw [← ht]
  exact decFormat_yes A cs.length cs w hw ⟨ha, hu, Nat.le_refl _⟩ l1 l8
theorem sl_lit2 (w : World) (a b : Int) (t : TypeId) : SlR (w.alloc (.cells #[.int .u64 a, .int .u64 b] t)) (fun _ => True) .u64 (some ⟨w.heap.size, 0, none⟩) [a, b] :=
  fun _ => ⟨w.heap.size, 0, rfl, trivial, fun j d hd => by
    match j, hd with
    | 0, hd => simp at hd; subst hd; simp [go_sem]
    | 1, hd => simp at hd; subst hd; simp [go_sem]⟩
theorem sl_lit3 (w : World) (a b c : Int) (t : TypeId) : SlR (w.alloc (.cells #[.int .u64 a, .int .u64 b, .int .u64 c] t)) (fun _ => True) .u64 (some ⟨w.heap.size, 0, none⟩) [a, b, c] :=
  fun _ => ⟨w.heap.size, 0, rfl, trivial, fun j d hd => by
    match j, hd with
    | 0, hd => simp at hd; subst hd; simp [go_sem]
    | 1, hd => simp at hd; subst hd; simp [go_sem]
    | 2, hd => simp at hd; subst hd; simp [go_sem]⟩
theorem us_lit {cs : List Int} (h : (cs.all fun d => decide (0 ≤ d) && decide (d ≤ 18446744073709551615)) = true) : Us cs := fun d hd => by
  have := List.all_eq_true.1 h d hd
  simp at this
  exact this
set_option maxHeartbeats 1000000 in
theorem alive4 (w : World) (hw : Wts w) : Calls Tryd.prog 9 #[] w fun e w' => e = .returned (.bool true) ∧ Below w.heap.size w w' := by
  go_enter Tryd.func9, Tryd.ntmps9
  go_wp2_with (fail)
  refine (decParse_lit1 _ hw).mono ?_
  rintro e w1 ⟨A1, c1, rfl, _, _, hb1⟩
  go_wp2_with (fail)
  refine (decParse_lit2 _ (hw.below hb1)).mono ?_
  rintro e w2 ⟨A2, c2, rfl, _, _, hb2⟩
  have hw2 := (hw.below hb1).below hb2
  have hbw2 := hb1.trans (hb2.mono hb1.size)
  have hb3 := (Below.refl w2.heap.size w2).alloc (Nat.le_refl _) (.cells #[.int .u64 0, .int .u64 1] 33)
  go_wp2_with (fail)
  refine (decFormat_lit [0, 1] _ _ (hw2.below hb3) (us_lit (by decide)) (by decide) (by decide) decL_lit1 _ (sl_lit2 _ _ _ _)).mono ?_
  rintro e w4 ⟨rfl, hb4⟩
  have ht4 := bs_toList [49, 56, 52, 52, 54, 55, 52, 52, 48, 55, 51, 55, 48, 57, 53, 53, 49, 54, 49, 54]
  have hbw4 := (hbw2.trans (hb3.mono hbw2.size)).trans (hb4.mono (by have := hbw2.size; simp; omega))
  have hw4 := hw.below hbw4
  have hb5 := (Below.refl w4.heap.size w4).alloc (Nat.le_refl _) (.cells #[.int .u64 18446744073709551611, .int .u64 18446744073709551615, .int .u64 18446744073709551615] 33)
  have ht6 := bs_toList [45, 53]
  go_wp2_with (fail)
  refine (decFormat_lit [18446744073709551611, 18446744073709551615, 18446744073709551615] _ _ (hw4.below hb5) (us_lit (by decide)) (by decide) (by decide) decL_lit2 _ (sl_lit3 _ _ _ _ _)).mono ?_
  rintro e w6 ⟨rfl, hb6⟩
  have hbw6 := (hbw4.trans (hb5.mono hbw4.size)).trans (hb6.mono (by have := hbw4.size; simp; omega))
  go_wp2
  go_ret
  exact ⟨rfl, hbw6⟩
theorem law4_formats_long (A : Option Addr) (n c : Nat) (w : World) (hw : Wts w) (h : 50 < n) :
    Calls Tryd.prog 3 #[.slice A n c] w fun e w' => e = .returned (.bool true) ∧ Below w.heap.size w w' := by
  have t1 : (50 : Int) < (n : Int) := by omega
  go_enter Tryd.func3, Tryd.ntmps3
  go_wp2_with (fail)
  refine (alive4 _ hw).mono ?_
  rintro e w1 ⟨rfl, hb1⟩
  go_wp2
  go_ret
  exact ⟨rfl, hb1⟩
theorem law_decimalFormats (A : Option Addr) (c : Nat) (la : List Int) (w : World) (hw : Wts w) (ha : Arg w A c la) :
    Calls Tryd.prog 3 #[.slice A la.length c] w fun e w' => e = .returned (.bool true) ∧ Below w.heap.size w w' := by
  by_cases hl : 50 < la.length
  · exact law4_formats_long A la.length c w hw hl
  · have t1 : ¬ (50 : Int) < (la.length : Int) := by omega
    by_cases hi : 1 ≤ la.length ∧ la.length ≤ 8
    · have h1 := hi.1
      have h8 := hi.2
      clear hl hi
      go_enter Tryd.func3, Tryd.ntmps3
      go_wp2_with (fail)
      refine (alive4 _ hw).mono ?_
      rintro e w1 ⟨rfl, hb1⟩
      go_wp2_with (fail)
      refine (decFormat_yes A c la _ (hw.below hb1) (ha.next hb1) h1 h8).mono ?_
      rintro e w2 ⟨rfl, hb2⟩
      go_wp2_with (fail)
      refine (r4format_yes A c la _ _ ((ha.sl.next hb1).next hb2) ha.us h1 h8).mono ?_
      rintro e w3 ⟨rfl, hb3⟩
      have hbw := (hb1.trans (hb2.mono hb1.size)).trans (hb3.mono (by have := hb1.size; have := hb2.size; omega))
      go_wp2
      go_ret
      exact ⟨rfl, hbw⟩
    · have hno : la.length < 1 ∨ 8 < la.length := by omega
      have HNO := Lib.hid hno
      have hl6 : la.length ≤ 1000000 := by omega
      have ht := bs_toList []
      clear hl hi hno
      go_enter Tryd.func3, Tryd.ntmps3
      go_wp2_with (fail)
      refine (alive4 _ hw).mono ?_
      rintro e w1 ⟨rfl, hb1⟩
      go_wp2_with (fail)
      refine (decFormat_no A c la _ (hw.below hb1) (ha.next hb1) hl6 HNO.out).mono ?_
      rintro e w2 ⟨rfl, hb2⟩
      go_wp2_with (fail)
      refine (r4format_no A la.length c _ HNO.out).mono ?_
      rintro e w3 ⟨rfl, hb3⟩
      have hbw := (hb1.trans (hb2.mono hb1.size)).trans (hb3.mono (by have := hb1.size; have := hb2.size; omega))
      go_wp2
      go_ret
      exact ⟨rfl, hbw⟩
/-- What Parse answers, case by case. -/
theorem parsed_forms (s : List UInt8) (n : Int) : (parsed s n).1 = [] ∧ ((parsed s n).2 = 2 ∨ (parsed s n).2 = 3 ∨ (parsed s n).2 = 9) ∨
    ∃ (m : Nat) (x : Int), n = (m : Int) ∧ 1 ≤ m ∧ m ≤ 8 ∧ parsed s n = (limbs m x, 0) ∧ decL x = s ∧ sv (limbs m x) = x := by
  by_cases h : n < 1 ∨ 8 < n
  · rw [parsed_arg h]; exact .inl ⟨rfl, .inl rfl⟩
  · obtain ⟨m, rfl⟩ := Int.eq_ofNat_of_zero_le (show 0 ≤ n by omega)
    cases hd : decOf s with
    | none => rw [parsed_none (by omega) (by omega) hd]; exact .inl ⟨rfl, .inr (.inr rfl)⟩
    | some x =>
      rcases hf : fitsB x m with _ | _
      · rw [parsed_range (by omega) (by omega) hd (by rw [Int.toNat_natCast]; exact hf)]; exact .inl ⟨rfl, .inr (.inl rfl)⟩
      · have := parsed_fits (n := (m : Int)) (by omega) (by omega) hd (by rw [Int.toNat_natCast]; exact hf)
        rw [Int.toNat_natCast] at this
        exact .inr ⟨m, x, rfl, by omega, by omega, this, decL_decOf hd, of_decide_eq_true hf⟩
theorem parsed_len (s : List UInt8) (n : Int) : (parsed s n).1.length ≤ 8 := by
  rcases parsed_forms s n with ⟨h, _⟩ | ⟨m, x, _, _, h8, h, _⟩
  · rw [h]; simp
  · rw [h, limbs_length]; exact h8
theorem law4_parses_long (s : ByteArray) (n : Int) (w : World) (hw : Wts w) (h : 1000 < s.size) :
    Calls Tryd.prog 4 #[.string s, .int .i64 n] w fun e w' => e = .returned (.bool true) ∧ Below w.heap.size w w' := by
  have t1 : (1000 : Int) < (s.size : Int) := by omega
  go_enter Tryd.func4, Tryd.ntmps4
  go_wp2_with (fail)
  refine (alive4 _ hw).mono ?_
  rintro e w1 ⟨rfl, hb1⟩
  go_wp2
  go_ret
  exact ⟨rfl, hb1⟩
theorem law_decimalParses (s : List UInt8) (n : Int) (w : World) (hw : Wts w) (hn : S n) :
    Calls Tryd.prog 4 #[.string (bs s), .int .i64 n] w fun e w' => e = .returned (.bool true) ∧ Below w.heap.size w w' := by
  by_cases hl : 1000 < s.length
  · exact law4_parses_long _ n w hw (by rw [bs_size]; exact hl)
  · have t1 : ¬ (1000 : Int) < ((bs s).size : Int) := by rw [bs_size]; omega
    have hP := fun (w : World) (hw : Wts w) => decParse_any s n w hw (by omega) hn
    have hR := fun (w : World) => r4parse_any s n w (by omega) hn
    have hpl := parsed_len s n
    generalize (parsed s n).1 = ls at hP hR hpl
    generalize (parsed s n).2 = er at hP hR
    have HS := Lib.hid (sameB_self ls)
    have HP := Lib.hid hP
    have HR := Lib.hid hR
    clear hl hP hR
    go_enter Tryd.func4, Tryd.ntmps4
    go_wp2_with (fail)
    refine (HP.out _ hw).mono ?_
    rintro e w1 ⟨A1, c1, rfl, hc1, hs1, hb1⟩
    go_wp2_with (fail)
    refine (HR.out _).mono ?_
    rintro e w2 ⟨A2, c2, rfl, hc2, hs2, hb2⟩
    have hbw := hb1.trans (hb2.mono hb1.size)
    go_wp2_with (fail)
    refine (alive4 _ (hw.below hbw)).mono ?_
    rintro e w3 ⟨rfl, hb3⟩
    go_wp2_with (fail)
    refine (r3same_any A1 A2 c1 c2 ls ls _ _ _ ((hs1.next hb2).next hb3) (hs2.next hb3) (by omega)).mono ?_
    rintro e w4 ⟨rfl, n4, rfl⟩
    rw [HS.out]
    have hbw3 := below_drewN' (hbw.trans (hb3.mono hbw.size)) n4
    go_wp2
    go_ret
    exact ⟨rfl, hbw3⟩
end Go.Proofs.YtpdmpmlieligoaaDoor
