/-
  The laws of layer 4, second part: RoundTrip, IsCanonical, Divides.
-/
import Derived.Test.YtpdmpmlieligoaaDoorLaw4
import Derived.Test.YtpdmpmlieligoaaDoorRef02
namespace Go.Proofs.YtpdmpmlieligoaaDoor
open Go.RowKit

theorem decL_len {x : Int} {k : Nat} (hk : 1 ≤ k) (h : x.natAbs < 10 ^ k) : (decL x).length ≤ k + 1 := by
  have := decN_length hk h
  unfold decL
  split <;> simp <;> omega
theorem sv_small {la : List Int} (hu : Us la) (h8 : la.length ≤ 8) : (decL (sv la)).length ≤ 161 := by
  refine decL_len (by decide) ?_
  have hr := sv_range hu
  have hm := M_le h8
  have h8' : M 8 = 18446744073709551616 ^ 8 := rfl
  have hp : (18446744073709551616 : Int) ^ 8 < ((10 ^ 160 : Nat) : Int) := by decide +kernel
  omega
theorem decParse_back (la : List Int) (w : World) (hw : Wts w) (hu : Us la) (h1 : 1 ≤ la.length) (h8 : la.length ≤ 8) :
    Calls Tryd.prog 12 #[.string (bs (decL (sv la))), .int .i64 la.length] w (GivesP w la 0) := by
  have hl := sv_small hu h8
  have h := decParse_any (decL (sv la)) la.length w hw (by omega) (by unfold S; omega)
  have hp := parsed_fits (n := (la.length : Int)) (by omega) (by omega) (decOf_decL (sv la)) (by rw [Int.toNat_natCast]; exact fits_all hu (Nat.le_refl _))
  rw [Int.toNat_natCast, limbs_sv hu] at hp
  rw [hp] at h
  exact h
theorem law_decimalRoundTrip (A : Option Addr) (c : Nat) (la : List Int) (w : World) (hw : Wts w) (ha : Arg w A c la) :
    Calls Tryd.prog 5 #[.slice A la.length c] w fun e w' => e = .returned (.bool true) ∧ Below w.heap.size w w' := by
  by_cases hi : 1 ≤ la.length ∧ la.length ≤ 8
  · have h1 := hi.1
    have h8 := hi.2
    have HS := Lib.hid (sameB_self la)
    clear hi
    go_enter Tryd.func5, Tryd.ntmps5
    go_wp2_with (fail)
    refine (r3is_yes _ _ _ _ h1 h8).mono ?_
    rintro e w' ⟨rfl, hw1⟩
    obtain rfl := hw1.symm
    go_wp2_with (fail)
    refine (decFormat_yes A c la _ hw ha h1 h8).mono ?_
    rintro e w1 ⟨rfl, hb1⟩
    go_wp2_with (fail)
    refine (decParse_back la _ (hw.below hb1) ha.us h1 h8).mono ?_
    rintro e w2 ⟨A2, c2, rfl, hc2, hs2, hb2⟩
    have hbw := hb1.trans (hb2.mono hb1.size)
    go_wp2_with (fail)
    refine (alive4 _ (hw.below hbw)).mono ?_
    rintro e w3 ⟨rfl, hb3⟩
    have hbw3 := hbw.trans (hb3.mono hbw.size)
    go_wp2_with (fail)
    refine (r3same_any A A2 c c2 la la _ _ _ (ha.sl.next hbw3) (hs2.next hb3) (by omega)).mono ?_
    rintro e w4 ⟨rfl, n4, rfl⟩
    rw [HS.out]
    have hbw4 := below_drewN' hbw3 n4
    go_wp2
    go_ret
    exact ⟨rfl, hbw4⟩
  · have hno : la.length = 0 ∨ 8 < la.length := by omega
    have HNO := Lib.hid hno
    clear hno hi
    go_enter Tryd.func5, Tryd.ntmps5
    go_wp2_with (fail)
    refine (r3is_no _ _ _ _ HNO.out).mono ?_
    rintro e w' ⟨rfl, hw1⟩
    obtain rfl := hw1.symm
    go_wp2_with (fail)
    refine (alive4 _ hw).mono ?_
    rintro e w3 ⟨rfl, hb3⟩
    go_wp2
    go_ret
    exact ⟨rfl, hb3⟩
theorem law4_canon_long (s : ByteArray) (n : Int) (w : World) (hw : Wts w) (h : 1000 < s.size) :
    Calls Tryd.prog 6 #[.string s, .int .i64 n] w fun e w' => e = .returned (.bool true) ∧ Below w.heap.size w w' := by
  have t1 : (1000 : Int) < (s.size : Int) := by omega
  go_enter Tryd.func6, Tryd.ntmps6
  go_wp2_with (fail)
  refine (alive4 _ hw).mono ?_
  rintro e w1 ⟨rfl, hb1⟩
  go_wp2
  go_ret
  exact ⟨rfl, hb1⟩
theorem law4_canon_err (s : List UInt8) (n er : Int) (w : World) (hw : Wts w) (hl : ¬ (1000 : Int) < ((bs s).size : Int)) (hP : ∀ (w : World), Wts w → Calls Tryd.prog 12 #[.string (bs s), .int .i64 n] w (GivesP w [] er)) (her : (er != 0) = true) :
    Calls Tryd.prog 6 #[.string (bs s), .int .i64 n] w fun e w' => e = .returned (.bool true) ∧ Below w.heap.size w w' := by
  have HP := Lib.hid hP
  clear hP
  go_enter Tryd.func6, Tryd.ntmps6
  go_wp2_with (fail)
  refine (HP.out _ hw).mono ?_
  rintro e w1 ⟨A1, c1, rfl, _, _, hb1⟩
  go_wp2_with (fail)
  refine (alive4 _ (hw.below hb1)).mono ?_
  rintro e w2 ⟨rfl, hb2⟩
  have hbw := hb1.trans (hb2.mono hb1.size)
  go_wp2
  go_ret
  exact ⟨rfl, hbw⟩
theorem law4_canon_yes (s : List UInt8) (m : Nat) (ls : List Int) (w : World) (hw : Wts w) (hl : ¬ (1000 : Int) < ((bs s).size : Int)) (h1 : 1 ≤ m) (h8 : m ≤ 8) (hls : ls.length = m) (hu : Us ls)
    (hP : ∀ (w : World), Wts w → Calls Tryd.prog 12 #[.string (bs s), .int .i64 m] w (GivesP w ls 0)) (hs : decL (sv ls) = s) :
    Calls Tryd.prog 6 #[.string (bs s), .int .i64 m] w fun e w' => e = .returned (.bool true) ∧ Below w.heap.size w w' := by
  have HP := Lib.hid hP
  have hF : ∀ (A : Option Addr) (c : Nat) (w : World), Wts w → Arg w A c ls → Calls Tryd.prog 10 #[.slice A ls.length c] w (GivesStr w s) := by
    intro A c w hw ha
    rw [← hs]
    exact decFormat_yes A c ls w hw ha (by omega) (by omega)
  have HF := Lib.hid hF
  have hlm : ((ls.length : Int) == (m : Int)) = true := by rw [hls]; exact beq_self_eq_true _
  clear hP hF hs hls
  go_enter Tryd.func6, Tryd.ntmps6
  go_wp2_with (fail)
  refine (HP.out _ hw).mono ?_
  rintro e w1 ⟨A1, c1, rfl, hc1, hs1, hb1⟩
  go_wp2_with (fail)
  refine (alive4 _ (hw.below hb1)).mono ?_
  rintro e w2 ⟨rfl, hb2⟩
  have hbw := hb1.trans (hb2.mono hb1.size)
  go_wp2_with (fail)
  refine (HF.out A1 c1 _ (hw.below hbw) ⟨(hs1.next hb2).imp fun _ _ => trivial, hu, hc1⟩).mono ?_
  rintro e w3 ⟨rfl, hb3⟩
  have hbw3 := hbw.trans (hb3.mono hbw.size)
  go_wp2
  go_ret
  exact ⟨rfl, hbw3⟩
theorem law_decimalIsCanonical (s : List UInt8) (n : Int) (w : World) (hw : Wts w) (hn : S n) :
    Calls Tryd.prog 6 #[.string (bs s), .int .i64 n] w fun e w' => e = .returned (.bool true) ∧ Below w.heap.size w w' := by
  by_cases hl : 1000 < s.length
  · exact law4_canon_long _ n w hw (by rw [bs_size]; exact hl)
  · have t1 : ¬ (1000 : Int) < ((bs s).size : Int) := by rw [bs_size]; omega
    have hP := fun (w : World) (hw : Wts w) => decParse_any s n w hw (by omega) hn
    rcases parsed_forms s n with ⟨h, h'⟩ | ⟨m, x, rfl, h1, h8, h, hx, hv⟩
    · rw [h] at hP
      refine law4_canon_err s n (parsed s n).2 w hw t1 hP ?_
      rcases h' with h' | h' | h' <;> rw [h'] <;> rfl
    · rw [h] at hP
      exact law4_canon_yes s m (limbs m x) w hw t1 h1 h8 (limbs_length m x) (limbs_us m x) hP (by rw [hv]; exact hx)
/-- One limb of the check. -/
theorem divides_step {la lq : List Int} {k : Nat} {cr d r : Int} (hla : Us la) (ht : uv la = uv lq * d + r) (h : uv (la.take k) + M k * cr = uv (lq.take k) * d + r) :
    lo (dgt lq k * d + cr) = dgt la k ∧ uv (la.take (k + 1)) + M (k + 1) * hi (dgt lq k * d + cr) = uv (lq.take (k + 1)) * d + r := by
  obtain ⟨s, hs⟩ : ∃ s, s = dgt lq k * d + cr := ⟨_, rfl⟩
  rw [← hs]
  have e1 : uv (lq.take (k + 1)) * d + r = uv (la.take k) + M k * s := by
    rw [uv_take_dgt, Int.add_mul, hs, Int.mul_add, Int.mul_assoc]; omega
  have e2 : M k * s = M k * lo s + M (k + 1) * hi s := by
    rw [M_succ, Int.mul_assoc, ← Int.mul_add]; congr 1; have := lo_hi s; omega
  have split : ∀ l : List Int, ∃ z, uv l = uv (l.take (k + 1)) + M (k + 1) * z := by
    intro l
    rcases Nat.lt_or_ge l.length (k + 1) with hlt | hge
    · exact ⟨0, by rw [List.take_of_length_le (by omega)]; omega⟩
    · have e := uv_append (l.take (k + 1)) (l.drop (k + 1))
      rw [List.take_append_drop, List.length_take, Nat.min_eq_left hge] at e
      exact ⟨_, e⟩
  obtain ⟨a, ha⟩ := split la
  obtain ⟨q, hq⟩ := split lq
  have e3 : uv la = uv (lq.take (k + 1)) * d + r + M (k + 1) * (q * d) := by
    rw [ht, hq, Int.add_mul, Int.mul_assoc]; omega
  have e4 := uv_take_dgt la k
  have e5 : M k * (dgt la k - lo s) = M k * (18446744073709551616 * (hi s + q * d - a)) := by
    rw [← Int.mul_assoc, ← M_succ, Int.mul_sub, Int.mul_sub, Int.mul_add]; omega
  have hp := M_pos k
  have e6 := Int.eq_of_mul_eq_mul_left (by omega) e5
  have u1 := hla.dgt k
  have u2 := U_lo s
  unfold U at u1 u2
  have e7 : lo s = dgt la k := by omega
  refine ⟨e7, ?_⟩
  rw [e1, e2, e4, e7]; omega
theorem r2mulAdd0 (a b c : Int) (ha : U a) (hb : U b) (hc : U c) (w : World) :
    Calls Tryd.prog 17 #[.int .u64 a, .int .u64 b, .int .u64 c, .int .u64 0] w fun e w' => e = .returned (.tuple #[.int .u64 (hi (a * b + c)), .int .u64 (lo (a * b + c))]) ∧ w' = w := by
  have h := r2mulAdd_any a b c 0 ha hb hc U_zero w
  rw [Int.add_zero] at h
  exact h
theorem law4_div_long (A : Option Addr) (n c : Nat) (d : Int) (w : World) (hw : Wts w) (h : 50 < n) :
    Calls Tryd.prog 7 #[.slice A n c, .int .u64 d] w fun e w' => e = .returned (.bool true) ∧ Below w.heap.size w w' := by
  have t1 : (50 : Int) < (n : Int) := by omega
  go_enter Tryd.func7, Tryd.ntmps7
  go_wp2_with (fail)
  refine (alive4 _ hw).mono ?_
  rintro e w1 ⟨rfl, hb1⟩
  go_wp2
  go_ret
  exact ⟨rfl, hb1⟩
theorem law4_div_no (A : Option Addr) (c : Nat) (la : List Int) (d : Int) (w : World) (hw : Wts w) (ha : Arg w A c la) (hl : ¬ (50 : Int) < (la.length : Int)) (hd : U d) (h : la.length < 1 ∨ 8 < la.length) :
    Calls Tryd.prog 7 #[.slice A la.length c, .int .u64 d] w fun e w' => e = .returned (.bool true) ∧ Below w.heap.size w w' := by
  have HN := Lib.hid h
  have hl6 : la.length ≤ 1000000 := by omega
  clear h
  go_enter Tryd.func7, Tryd.ntmps7
  go_wp2_with (fail)
  refine (decDiv_no A c la d _ hw ha hl6 hd (by have := HN.out; omega)).mono ?_
  rintro e w1 ⟨A1, c1, rfl, _, _, hb1⟩
  go_wp2_with (fail)
  refine (r3is_no _ _ _ _ (by have := HN.out; omega)).mono ?_
  rintro e w' ⟨rfl, hw1⟩
  obtain rfl := hw1.symm
  go_wp2_with (fail)
  refine (alive4 _ (hw.below hb1)).mono ?_
  rintro e w2 ⟨rfl, hb2⟩
  have hbw := hb1.trans (hb2.mono hb1.size)
  go_wp2
  go_ret
  exact ⟨rfl, hbw⟩
theorem law4_div_zero (A : Option Addr) (c : Nat) (la : List Int) (w : World) (hw : Wts w) (ha : Arg w A c la) (hl : ¬ (50 : Int) < (la.length : Int)) (h1 : 1 ≤ la.length) (h8 : la.length ≤ 8) :
    Calls Tryd.prog 7 #[.slice A la.length c, .int .u64 0] w fun e w' => e = .returned (.bool true) ∧ Below w.heap.size w w' := by
  go_enter Tryd.func7, Tryd.ntmps7
  go_wp2_with (fail)
  refine (decDiv_no A c la 0 _ hw ha (by omega) U_zero (.inr (.inr rfl))).mono ?_
  rintro e w1 ⟨A1, c1, rfl, _, _, hb1⟩
  go_wp2_with (fail)
  refine (r3is_yes _ _ _ _ h1 h8).mono ?_
  rintro e w' ⟨rfl, hw1⟩
  obtain rfl := hw1.symm
  go_wp2_with (fail)
  refine (alive4 _ (hw.below hb1)).mono ?_
  rintro e w2 ⟨rfl, hb2⟩
  have hbw := hb1.trans (hb2.mono hb1.size)
  go_wp2
  go_ret
  exact ⟨rfl, hbw⟩
set_option maxHeartbeats 1000000 in
theorem law4_div_yes (A : Option Addr) (c : Nat) (la lq : List Int) (d r : Int) (w : World) (hw : Wts w) (ha : Arg w A c la) (hl : ¬ (50 : Int) < (la.length : Int)) (h1 : 1 ≤ la.length) (h8 : la.length ≤ 8) (hd : U d) (h0 : 0 < d)
    (hq : lq.length = la.length) (huq : Us lq) (hr0 : 0 ≤ r) (hr : r < d) (ht : uv la = uv lq * d + r)
    (hD : Calls Tryd.prog 16 #[.slice A la.length c, .int .u64 d] w (GivesQ w lq r)) :
    Calls Tryd.prog 7 #[.slice A la.length c, .int .u64 d] w fun e w' => e = .returned (.bool true) ∧ Below w.heap.size w w' := by
  have HT := Lib.hid ht
  have HQ := Lib.hid hq
  have HD := Lib.hid hD
  have t1 : ((lq.length : Int) != (la.length : Int)) = false := by rw [hq]; simp
  have t2 : (d == 0) = false := by rw [beq_eq_false_iff_ne]; omega
  have t3 : ¬ d ≤ r := by omega
  clear ht hq hD
  go_enter Tryd.func7, Tryd.ntmps7
  go_wp2_with (fail)
  refine HD.out.mono ?_
  rintro e w1 ⟨A1, c1, rfl, hc1, hs1, hb1⟩
  go_wp2_with (fail)
  refine (r3is_yes _ _ _ _ h1 h8).mono ?_
  rintro e w' ⟨rfl, hw1⟩
  obtain rfl := hw1.symm
  have ha1 := ha.sl.next hb1
  go_wp2
  go_loopw [7, 51] (fun cr i wr => wr = w1 ∧ ∃ (k : Nat) (x : Int), i = .int .i64 k ∧ cr = .int .u64 x ∧ k ≤ la.length ∧ U x ∧ uv (la.take k) + M k * x = uv (lq.take k) * d + r) (fun _ i _ => la.length - (intOf i).toNat)
  case atStart => exact ⟨rfl, 0, r, rfl, rfl, Nat.zero_le _, by unfold U at hd ⊢; omega, by simp [uv, M_zero]⟩
  case round =>
    obtain ⟨rfl, k, x, rfl, rfl, hk, hx, hinv⟩ := hrel
    by_cases hgo : k < la.length
    · have hgo2 : k < lq.length := by rw [HQ.out]; exact hgo
      obtain ⟨b, off, rfl, _, hca⟩ := ha1.at_ hgo
      obtain ⟨b2, off2, rfl, _, hcb⟩ := hs1.at_ hgo2
      rw [← dgt_lt hgo] at hca
      rw [← dgt_lt hgo2] at hcb
      have hst := divides_step ha.us HT.out hinv
      obtain ⟨hs1', hs2'⟩ := hst
      have HS2 := Lib.hid hs2'
      have hne : (lo (dgt lq k * d + x) != dgt la k) = false := by rw [hs1']; simp
      have hUq := huq.dgt k
      have hUh : U (hi (dgt lq k * d + x)) := by
        have := U_hi_mulAdd hUq hd hx U_zero
        rw [Int.add_zero] at this
        exact this
      clear hs1' hs2' hinv
      go_wp2_with (fail)
      refine (r2mulAdd0 _ _ _ hUq hd hx _).mono ?_
      rintro e w' ⟨rfl, hw1⟩
      obtain rfl := hw1.symm
      go_wp2
      go_roundw
      case rel => exact ⟨trivial, k + 1, _, by go_num, rfl, hgo, hUh, HS2.out⟩
      case measure => simp [intOf]; omega
    · have hx0 : x = 0 := by
        have hkl : k = la.length := by omega
        rw [hkl, List.take_length, List.take_of_length_le (by have := HQ.out; omega), HT.out] at hinv
        have hz : M la.length * x = 0 := by omega
        have hp := M_pos la.length
        rcases Int.mul_eq_zero.1 hz with h | h
        · omega
        · exact h
      subst hx0
      have hgo2 : ¬ k < lq.length := by rw [HQ.out]; exact hgo
      clear hinv
      go_wp2_with (fail)
      refine (alive4 _ (hw.below hb1)).mono ?_
      rintro e w2 ⟨rfl, hb2⟩
      have hbw := hb1.trans (hb2.mono hb1.size)
      go_wp2
      go_ret
      exact ⟨rfl, hbw⟩
theorem law_decimalDivides (A : Option Addr) (c : Nat) (la : List Int) (d : Int) (w : World) (hw : Wts w) (ha : Arg w A c la) (hd : U d) :
    Calls Tryd.prog 7 #[.slice A la.length c, .int .u64 d] w fun e w' => e = .returned (.bool true) ∧ Below w.heap.size w w' := by
  by_cases hl : 50 < la.length
  · exact law4_div_long A la.length c d w hw hl
  · have t1 : ¬ (50 : Int) < (la.length : Int) := by omega
    by_cases hi : 1 ≤ la.length ∧ la.length ≤ 8
    · by_cases h0 : d = 0
      · subst h0; exact law4_div_zero A c la w hw ha t1 hi.1 hi.2
      · have hd0 : 0 < d := by unfold U at hd; omega
        have h1 := uv_nonneg ha.us
        have h2 := uv_lt ha.us
        have hq0 : 0 ≤ uv la / d := Int.ediv_nonneg h1 (by omega)
        have hq1 : uv la / d ≤ uv la := Int.ediv_le_self _ h1
        refine law4_div_yes A c la (limbs la.length (uv la / d)) d (uv la % d) w hw ha t1 hi.1 hi.2 hd hd0 (limbs_length _ _) (limbs_us _ _) (Int.emod_nonneg _ (by omega)) (Int.emod_lt_of_pos _ hd0) ?_ (decDiv_yes A c la d w hw ha hi.1 hi.2 hd hd0)
        rw [limbs_uv, Int.emod_eq_of_lt hq0 (by omega), Int.mul_comm]
        exact (Int.mul_ediv_add_emod (uv la) d).symm
    · exact law4_div_no A c la d w hw ha t1 hd (by omega)
end Go.Proofs.YtpdmpmlieligoaaDoor
