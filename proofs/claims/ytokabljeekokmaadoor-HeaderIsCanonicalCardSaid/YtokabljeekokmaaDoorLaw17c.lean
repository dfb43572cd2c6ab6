/-
  Layer 17: laws. (Written by law17.py.)
-/
import Derived.Test.YtokabljeekokmaaDoorLaw17h
namespace Go.Proofs.YtokabljeekokmaaDoor
open Go.RowKit Go.Maps
set_option maxRecDepth 100000
set_option linter.unusedVariables false
set_option linter.unusedSimpArgs false

set_option maxHeartbeats 2000000 in
theorem law_headerIsCanonical (A : Option Addr) (n c : Nat) (bs : List Int) (w : World) (hw : Wts w) (ha : ArgB w A c bs) (hn : n = bs.length) :
    Calls Tryd.prog 7 #[.slice A n c] w fun e w' => e = .returned (.bool true) ∧ Below w.heap.size w w' := by
  have hok := parse_ok (b := bs) ha.ub
  have hbd := parse_bad (b := bs)
  obtain ⟨P, hP⟩ : ∃ P, parseH bs = P := ⟨_, rfl⟩
  obtain ⟨⟨op, vx, ks, pts⟩, m, er⟩ := P
  rw [hP] at hok hbd
  simp only at hok hbd
  have HP := Lib.hid hP
  have HOK := Lib.hid hok
  have HBD := Lib.hid hbd
  have HN := Lib.hid hn
  have hl : n ≤ 9223372036854775807 := by rw [hn]; have := ha.cap; have := ha.room; omega
  clear hP hn hok hbd
  go_enter Tryd.func7, Tryd.ntmps7
  go_wp2_with (fail)
  refine (hdrParse_c A n c bs _ _ w hw ha.row HN.out ha.ub hl (by rw [HN.out]; exact ha.cap) HP.out).mono ?_
  intro e w1 hg
  obtain ⟨A1, n1, d1, rs1, rfl, hn1, hr1, hk1, hp1, hb1⟩ := hg.open_
  have HN1 := Lib.hid hn1
  have HK1 := Lib.hid hk1
  have HT1 := Lib.hid hp1
  clear hg hn1 hk1 hp1
  go_upto_region 2 with (fail)
  obtain ⟨b2, hb2⟩ : ∃ b, b = w1.heap.size := ⟨_, rfl⟩
  obtain ⟨W2, hW2⟩ : ∃ W, W = w1.alloc (.cells #[.int .i64 op, .int .i64 vx, .slice A1 n1 d1, .int .i64 pts] 25) := ⟨_, rfl⟩
  obtain ⟨x2, y2, c20, c21, c22, c23⟩ := box4 hW2
  rw [← hb2] at c20 c21 c22 c23
  rw [← hW2, ← hb2]
  clear y2 hW2 hb2
  have q2 := hb1.trans (x2.mono hb1.size)
  have hr2 := low_row (hr1.next x2)
  clear hr1 hb1 x2
  by_cases he : er = 0
  · subst he
    have hB := HOK.out rfl
    have hk := hB.ok
    have hn1b := hB.n1
    have hn2b := hB.n2
    have HFM := Lib.hid hB.form
    simp only at hk hn1b hn2b HFM
    rw [← HN.out] at hn2b
    obtain rfl := HK1.out
    have hS := okh_S hk
    have hlen := okh_len hk
    simp only at hS
    have HE := Lib.hid (show formErr ⟨op, vx, rs1.map rgK, pts⟩ (rgP rs1) = 0 from formErr_ok.2 ⟨hk, HT1.out⟩)
    have hml : n1 ≤ 1000000 := by rw [HN1.out]; omega
    have hv := okh_v hk
    have hnc : n ≤ c := by rw [HN.out]; exact ha.cap
    have hc2 := ha.room
    clear hB hk
    go_wp2_with (fail)
    refine (hdrFormat_c op vx pts A1 n1 d1 rs1 0 _ _ (hw.below q2) hr2 HN1.out hml hS hv HE.out rfl).mono ?_
    rintro e w3 ⟨v, rfl, hown, hb3⟩
    rw [if_pos rfl, HFM.out] at hown
    obtain ⟨A4, m4, d4, rfl, hm4, hmc, _, hs4, _⟩ := own_b hown
    have hmm : m4 = m := by rw [hm4, List.length_take, ← HN.out]; omega
    subst hmm
    have q3 := q2.trans (hb3.mono q2.size)
    have hs4' := hs4
    clear hm4 hs4 hown hmc c20 c21 c22 c23
    go_wp2_with (fail)
    refine (alive17_any _ (hw.below q3)).mono ?_
    rintro e w5 ⟨rfl, hb5⟩
    have q5 := q3.trans (hb5.mono q3.size)
    have hsw := (ha.next q5).row
    have hs5 := hs4'.next hb5
    have hm1 : (1 : Int) ≤ m4 := by omega
    have hm2 : (m4 : Int) ≤ n := by omega
    clear hs4' ha
    go_wp2_with (fail)
    refine (hasPrefixB_yes A A4 n m4 c d4 bs _ _ w5 hsw hs5 HN.out hn2b hnc (by omega) hn1b).mono ?_
    rintro e w6 ⟨rfl, hw6⟩
    obtain rfl := hw6.symm
    go_wp2
    go_ret
    exact ⟨by simp, q5⟩
  · have hm0 := Lib.hid (show m = 0 by have := (HBD.out he).1; simp only [badP, PrS.mk.injEq] at this; exact this.2.1)
    have d1 : (er == 0) = false := by rw [beq_eq_false_iff_ne]; exact he
    have d2 : (er != 0) = true := by rw [bne_iff_ne]; exact he
    obtain rfl := hm0.out
    clear he ha
    go_wp2_with (fail)
    refine (alive17_any _ (hw.below q2)).mono ?_
    rintro e w5 ⟨rfl, hb5⟩
    go_wp2
    go_ret
    exact ⟨by simp, q2.trans (hb5.mono q2.size)⟩
end Go.Proofs.YtokabljeekokmaaDoor
