/-
  Layer 17: laws. (Written by law17.py.)
-/
import Derived.Test.YtokabljeekokmaaDoorLaw17
namespace Go.Proofs.YtokabljeekokmaaDoor
open Go.RowKit Go.Maps
set_option maxRecDepth 100000
set_option linter.unusedVariables false
set_option linter.unusedSimpArgs false

theorem same_keys {rs rs2 : List Rg} {ks : List (Bool × Int)} (h1 : rs.map rgK = ks) (h2 : rs2.map rgK = ks) (p1 : rgP rs = false) (p2 : rgP rs2 = false) :
    ∀ k (h1 : k < rs.length) (h2 : k < rs2.length), rs[k].d = rs2[k].d ∧ rs[k].v = rs2[k].v ∧ rs[k].l.length = rs2[k].l.length := by
  intro k l1 l2
  have e1 : (rs.map rgK)[k]'(by simpa using l1) = (rs2.map rgK)[k]'(by simpa using l2) := by simp only [h1, h2]
  simp only [List.getElem_map, rgK, Prod.mk.injEq] at e1
  have z : ∀ (l : List Rg), rgP l = false → ∀ j (h : j < l.length), (l[j]).l.length = 0 := fun l hl j hj => by
    by_cases e : (l[j]).l.length = 0
    · exact e
    · have : rgP l = true := List.any_eq_true.2 ⟨l[j], List.getElem_mem hj, by simpa using (show 0 < (l[j]).l.length by omega)⟩
      rw [hl] at this; cases this
  exact ⟨e1.1, e1.2, by rw [z rs p1 k l1, z rs2 p2 k l2]⟩
theorem len_keys {rs : List Rg} {ks : List (Bool × Int)} (h : rs.map rgK = ks) : rs.length = ks.length := by rw [← h, List.length_map]
/-- How many regions an accepted header has. -/
theorem few_keys {bs : List Int} (hU : UB bs) {P : PrS} (hP : parseH bs = P) : P.h.ks.length ≤ 64 := by
  subst hP
  by_cases he : (parseH bs).e = 0
  · have k := (parse_ok hU he).ok
    have := k.op
    by_cases h4 : 4 ≤ (parseH bs).h.op
    · exact (k.len h4).2
    · rw [k.len0 (by omega)]; simp
  · rw [(parse_bad he).1]; simp [badP]
set_option maxHeartbeats 1000000 in
theorem law_headerParses (A : Option Addr) (n c : Nat) (bs : List Int) (w : World) (hw : Wts w) (ha : ArgB w A c bs) (hn : n = bs.length) :
    Calls Tryd.prog 3 #[.slice A n c] w fun e w' => e = .returned (.bool true) ∧ Below w.heap.size w w' := by
  obtain ⟨P, hP⟩ : ∃ P, parseH bs = P := ⟨_, rfl⟩
  obtain ⟨⟨op, vx, ks, pts⟩, m, er⟩ := P
  have HP := Lib.hid hP
  have HN := Lib.hid hn
  have hl : n ≤ 9223372036854775807 := by rw [hn]; have := ha.cap; have := ha.room; omega
  clear hP hn
  have hfew := few_keys ha.ub HP.out
  simp only at hfew
  go_enter Tryd.func3, Tryd.ntmps3
  go_wp2_with (fail)
  refine (hdrParse_c A n c bs _ _ w hw ha.row HN.out ha.ub hl (by rw [HN.out]; exact ha.cap) HP.out).mono ?_
  intro e w1 hg
  obtain ⟨A1, n1, d1, rs1, rfl, hn1, hr1, hk1, hp1, hb1⟩ := hg.open_
  have HN1 := Lib.hid hn1
  have HK1 := Lib.hid hk1
  have HT1 := Lib.hid hp1
  clear hg hn1 hk1 hp1
  go_upto_region 2 with (fail)
  obtain ⟨b2, hb2⟩ : ∃ b, b = w1.heap.size := ⟨_, rfl⟩
  obtain ⟨W2, hW2⟩ : ∃ W, W = w1.alloc (.cells #[.int .i64 op, .int .i64 vx, .slice A1 n1 d1, .int .i64 pts] 25) := ⟨_, rfl⟩
  obtain ⟨x2, y2, c20, c21, c22, c23⟩ := box4 hW2
  rw [← hb2] at c20 c21 c22 c23
  rw [← hW2, ← hb2]
  clear y2 hW2 hb2
  have q2 := hb1.trans (x2.mono hb1.size)
  have hr2 := hr1.next x2
  clear hr1 hb1 x2
  go_wp2_with (fail)
  refine (ref17Parse_any A n c bs _ _ W2 (ha.next q2).row HN.out ha.ub hl HP.out).mono ?_
  intro e w3 hg
  obtain ⟨A3, n3, d3, rs3, rfl, hn3, hr3, hk3, hp3, hb3⟩ := hg.open_
  have HN3 := Lib.hid hn3
  have HK3 := Lib.hid hk3
  have HT3 := Lib.hid hp3
  clear hg hn3 hk3 hp3
  obtain rfl : n3 = n1 := by rw [HN3.out, HN1.out, len_keys HK3.out, len_keys HK1.out]
  have hr3b := hr2.next hb3
  go_upto_region 3 with (fail)
  obtain ⟨b4, hb4⟩ : ∃ b, b = w3.heap.size := ⟨_, rfl⟩
  obtain ⟨W4, hW4⟩ : ∃ W, W = w3.alloc (.cells #[.int .i64 op, .int .i64 vx, .slice A3 n3 d3, .int .i64 pts] 25) := ⟨_, rfl⟩
  obtain ⟨x4, y4, c40, c41, c42, c43⟩ := box4 hW4
  rw [← hb4] at c40 c41 c42 c43
  rw [← hW4, ← hb4]
  clear y4 hW4 hb4
  have q24 := hb3.trans (x4.mono hb3.size)
  have q4 := q2.trans (q24.mono q2.size)
  have hr1 := hr3b.next x4
  have hr3 := hr3.next x4
  go_wp2_with (fail)
  refine (alive17_any _ (hw.below q4)).mono ?_
  rintro e w5 ⟨rfl, hb5⟩
  have hn5 : n3 ≤ 1000000 := by have := len_keys HK3.out; rw [← HN3.out] at this; omega
  have j0 := ((q24.trans (hb5.mono q24.size)).cell (p := ⟨b2, 0, none⟩) (lt_of_cell c20)).trans c20
  have j1 := ((q24.trans (hb5.mono q24.size)).cell (p := ⟨b2, 1, none⟩) (lt_of_cell c21)).trans c21
  have j2 := ((q24.trans (hb5.mono q24.size)).cell (p := ⟨b2, 2, none⟩) (lt_of_cell c22)).trans c22
  have j3 := ((q24.trans (hb5.mono q24.size)).cell (p := ⟨b2, 3, none⟩) (lt_of_cell c23)).trans c23
  have k0 := (hb5.cell (p := ⟨b4, 0, none⟩) (lt_of_cell c40)).trans c40
  have k1 := (hb5.cell (p := ⟨b4, 1, none⟩) (lt_of_cell c41)).trans c41
  have k2 := (hb5.cell (p := ⟨b4, 2, none⟩) (lt_of_cell c42)).trans c42
  have k3 := (hb5.cell (p := ⟨b4, 3, none⟩) (lt_of_cell c43)).trans c43
  have q5 := q4.trans (hb5.mono q4.size)
  have hr1 := hr1.next hb5
  have hr3 := hr3.next hb5
  clear c20 c21 c22 c23 c40 c41 c42 c43 hr2 hr3b x4 hb3 q24 hb5 q4 q2
  go_wp2_with (fail)
  refine (ref17Same_yes op vx pts A1 A3 n3 d1 d3 rs1 rs3 _ _ w5 hr1 hr3 HN1.out HN3.out hn5 (same_keys HK1.out HK3.out HT1.out HT3.out)).mono ?_
  rintro e w6 ⟨rfl, hb6⟩
  go_wp2
  go_ret
  exact ⟨by simp, q5.trans (hb6.mono q5.size)⟩
set_option maxHeartbeats 1000000 in
theorem law_headerClassifies (A : Option Addr) (n c : Nat) (bs : List Int) (w : World) (hw : Wts w) (ha : ArgB w A c bs) (hn : n = bs.length) :
    Calls Tryd.prog 5 #[.slice A n c] w fun e w' => e = .returned (.bool true) ∧ Below w.heap.size w w' := by
  obtain ⟨r, hr⟩ : ∃ r, classH bs = r := ⟨_, rfl⟩
  have HR := Lib.hid hr
  have HN := Lib.hid hn
  have hl : n ≤ 9223372036854775807 := by rw [hn]; have := ha.cap; have := ha.room; omega
  clear hr hn
  go_enter Tryd.func5, Tryd.ntmps5
  go_wp2_with (fail)
  refine (alive17_any _ hw).mono ?_
  rintro e w1 ⟨rfl, hb1⟩
  go_wp2_with (fail)
  refine (hdrClassify_c A n c bs _ r w1 (hw.below hb1) (ha.next hb1).row HN.out ha.ub hl (by rw [HN.out]; exact ha.cap) HR.out).mono ?_
  rintro e w2 ⟨rfl, hb2⟩
  have q2 := hb1.trans (hb2.mono hb1.size)
  go_wp2_with (fail)
  refine (ref17Classify_any A n c bs _ r w2 (ha.next q2).row HN.out ha.ub hl HR.out).mono ?_
  rintro e w3 ⟨rfl, hb3⟩
  go_wp2
  go_ret
  exact ⟨by simp, q2.trans (hb3.mono q2.size)⟩
end Go.Proofs.YtokabljeekokmaaDoor
