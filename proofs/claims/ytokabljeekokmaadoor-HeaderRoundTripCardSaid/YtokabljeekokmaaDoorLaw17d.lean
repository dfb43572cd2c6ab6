/-
  Layer 17: laws. (Written by law17.py.)
-/
import Derived.Test.YtokabljeekokmaaDoorLaw17h
namespace Go.Proofs.YtokabljeekokmaaDoor
open Go.RowKit Go.Maps
set_option maxRecDepth 100000
set_option linter.unusedVariables false
set_option linter.unusedSimpArgs false

theorem large17_any (op vx pts : Int) (A : Option Addr) (n c : Nat) (w : World) :
    Calls Tryd.prog 14 #[.agg #[.int .i64 op, .int .i64 vx, .slice A n c, .int .i64 pts]] w fun e w' => e = .returned (.bool (decide (200 < n))) ∧ Below w.heap.size w w' := by
  go_enter Tryd.func14, Tryd.ntmps14
  go_upto_region 1 with (fail)
  obtain ⟨b0, hb0⟩ : ∃ b, b = w.heap.size := ⟨_, rfl⟩
  obtain ⟨W0, hW0⟩ : ∃ W, W = w.alloc (.cells #[.int .i64 op, .int .i64 vx, .slice A n c, .int .i64 pts] 25) := ⟨_, rfl⟩
  obtain ⟨x0, y0, c00, c01, c02, c03⟩ := box4 hW0
  rw [← hb0] at c00 c01 c02 c03
  rw [← hW0, ← hb0]
  clear y0 hW0 hb0
  go_wp2
  go_ret
  exact ⟨by simp [show ((200 : Int) < (n : Int)) ↔ 200 < n by omega], x0⟩
set_option maxHeartbeats 2000000 in
theorem law_headerFormats (op vx pts : Int) (A : Option Addr) (n c : Nat) (rs : List Rg) (w : World) (hw : Wts w) (ha : ArgH w op vx pts A c rs) (hn : n = rs.length) :
    Calls Tryd.prog 4 #[.agg #[.int .i64 op, .int .i64 vx, .slice A n c, .int .i64 pts]] w fun e w' => e = .returned (.bool true) ∧ Below w.heap.size w w' := by
  have hmx : n ≤ 9223372036854775807 := by rw [hn]; exact ha.len
  have HN := Lib.hid hn
  clear hn
  go_enter Tryd.func4, Tryd.ntmps4
  go_upto_region 1 with (fail)
  obtain ⟨b0, hb0⟩ : ∃ b, b = w.heap.size := ⟨_, rfl⟩
  obtain ⟨W0, hW0⟩ : ∃ W, W = w.alloc (.cells #[.int .i64 op, .int .i64 vx, .slice A n c, .int .i64 pts] 25) := ⟨_, rfl⟩
  obtain ⟨x0, y0, c00, c01, c02, c03⟩ := box4 hW0
  rw [← hb0] at c00 c01 c02 c03
  rw [← hW0, ← hb0]
  clear y0 hW0 hb0
  go_wp2_with (fail)
  refine (large17_any op vx pts A n c W0).mono ?_
  rintro e w1 ⟨rfl, hb1⟩
  have q1 := x0.trans (hb1.mono x0.size)
  by_cases hL : 200 < n
  · have d1 : decide (200 < n) = true := by simpa using hL
    clear ha hL
    go_wp2_with (fail)
    refine (alive17_any _ (hw.below q1)).mono ?_
    rintro e w5 ⟨rfl, hb5⟩
    go_wp2
    go_ret
    exact ⟨rfl, q1.trans (hb5.mono q1.size)⟩
  have d0 : decide (200 < n) = false := by simpa using hL
  have hml : n ≤ 1000000 := by omega
  have hS := ha.num
  have hv := ha.wf
  have hr1 := low_row (ha.row.next q1)
  clear ha hL
  obtain ⟨er, her⟩ : ∃ er, formErr ⟨op, vx, rs.map rgK, pts⟩ (rgP rs) = er := ⟨_, rfl⟩
  obtain ⟨bs, hbs⟩ : ∃ bs, (if er = 0 then formB ⟨op, vx, rs.map rgK, pts⟩ else []) = bs := ⟨_, rfl⟩
  have HE := Lib.hid her
  have HB := Lib.hid hbs
  clear her hbs
  have j0 := (hb1.cell (p := ⟨b0, 0, none⟩) (lt_of_cell c00)).trans c00
  have j1 := (hb1.cell (p := ⟨b0, 1, none⟩) (lt_of_cell c01)).trans c01
  have j2 := (hb1.cell (p := ⟨b0, 2, none⟩) (lt_of_cell c02)).trans c02
  have j3 := (hb1.cell (p := ⟨b0, 3, none⟩) (lt_of_cell c03)).trans c03
  go_wp2_with (fail)
  refine (hdrFormat_c op vx pts A n c rs er bs _ (hw.below q1) hr1 HN.out hml hS hv HE.out HB.out).mono ?_
  rintro e w2 ⟨v2, rfl, hown2, hb2⟩
  obtain ⟨A2, m2, d2, rfl, hm2, _, _, hs2, _⟩ := own_b hown2
  have HM2 := Lib.hid hm2
  have q2 := q1.trans (hb2.mono q1.size)
  have q02 := hb1.trans (hb2.mono hb1.size)
  have hr2 := low_row (hr1.next hb2)
  clear j0 j1 j2 j3 hm2 hown2
  have j0 := (q02.cell (p := ⟨b0, 0, none⟩) (lt_of_cell c00)).trans c00
  have j1 := (q02.cell (p := ⟨b0, 1, none⟩) (lt_of_cell c01)).trans c01
  have j2 := (q02.cell (p := ⟨b0, 2, none⟩) (lt_of_cell c02)).trans c02
  have j3 := (q02.cell (p := ⟨b0, 3, none⟩) (lt_of_cell c03)).trans c03
  go_wp2_with (fail)
  refine (ref17Format_any op vx pts A n c rs er bs w2 hr2 HN.out (by omega) HE.out HB.out).mono ?_
  rintro e w3 ⟨v3, rfl, hown3, hb3⟩
  obtain ⟨A3, m3, d3, rfl, hm3, _, _, hs3, _⟩ := own_b hown3
  have HM3 := Lib.hid hm3
  have q3 := q2.trans (hb3.mono q2.size)
  have q03 := q02.trans (hb3.mono q02.size)
  have hr3 := low_row (hr2.next hb3)
  have hs2 := hs2.next hb3
  clear j0 j1 j2 j3 hm3 hown3
  go_wp2_with (fail)
  refine (equalB_yes A2 A3 m2 m3 d2 d3 bs _ _ w3 hs2 hs3 HM2.out HM3.out).mono ?_
  rintro e w4 ⟨rfl, hw4⟩
  obtain rfl := hw4.symm
  clear hw4 hs2 hs3 hr1 hr2
  have k0 := (q03.cell (p := ⟨b0, 0, none⟩) (lt_of_cell c00)).trans c00
  have k1 := (q03.cell (p := ⟨b0, 1, none⟩) (lt_of_cell c01)).trans c01
  have k2 := (q03.cell (p := ⟨b0, 2, none⟩) (lt_of_cell c02)).trans c02
  have k3 := (q03.cell (p := ⟨b0, 3, none⟩) (lt_of_cell c03)).trans c03
  by_cases he : er = 0
  · subst he
    have hk := (formErr_ok.1 HE.out).1
    obtain ⟨p, hp⟩ : ∃ p, payL ⟨op, vx, rs.map rgK, pts⟩ = p := ⟨_, rfl⟩
    obtain ⟨r, hr⟩ : ∃ r, rspL ⟨op, vx, rs.map rgK, pts⟩ = r := ⟨_, rfl⟩
    have HPb := Lib.hid hp
    have HRb := Lib.hid hr
    have HPa := Lib.hid (show (if formErr ⟨op, vx, rs.map rgK, pts⟩ (rgP rs) = 0 then payL ⟨op, vx, rs.map rgK, pts⟩ else 0) = p by rw [if_pos HE.out]; exact hp)
    have HRs := Lib.hid (show (if formErr ⟨op, vx, rs.map rgK, pts⟩ (rgP rs) = 0 then rspL ⟨op, vx, rs.map rgK, pts⟩ else 0) = r by rw [if_pos HE.out]; exact hr)
    clear hp hr
    go_upto_region 9 with (fail)
    refine dir_plain (by kernel_rfl) 16 [[], [(42, 0)], [(43, 1)], [(43, 1), (44, 2)], [(43, 1)], [(43, 1), (46, 4)], [(43, 1), (45, 3), (47, 5)], [(43, 1), (48, 6)], [(49, 7)], [(50, 8)], [(50, 8), (51, 9)], [(50, 8)], [(50, 8), (53, 11)], [(50, 8), (52, 10), (54, 12)], [(50, 8), (55, 13)], [(56, 14)]] [(42, 0), (43, 1), (44, 2), (45, 3), (46, 4), (47, 5), (48, 6), (49, 7), (50, 8), (51, 9), (52, 10), (53, 11), (54, 12), (55, 13), (56, 14), (2, 15)] [
        (fun v _ => v = .bool true),
        (fun v _ => v = .bool true),
        (fun v _ => v = .agg #[.int .i64 op, .int .i64 vx, .slice A n c, .int .i64 pts]),
        (fun v _ => v = .int .i64 p),
        (fun v _ => v = .agg #[.int .i64 op, .int .i64 vx, .slice A n c, .int .i64 pts]),
        (fun v _ => v = .int .i64 p),
        (fun v _ => v = .bool true),
        (fun v _ => v = .bool true),
        (fun v _ => v = .bool true),
        (fun v _ => v = .agg #[.int .i64 op, .int .i64 vx, .slice A n c, .int .i64 pts]),
        (fun v _ => v = .int .i64 r),
        (fun v _ => v = .agg #[.int .i64 op, .int .i64 vx, .slice A n c, .int .i64 pts]),
        (fun v _ => v = .int .i64 r),
        (fun v _ => v = .bool true),
        (fun v _ => v = .bool true),
        (fun v _ => v = .bool true)
      ] (by kernel_rfl) (by kernel_rfl) (by kernel_rfl) (by decide) ⟨dstab_eq, dstab_eq, dstab_eq, dstab_eq, dstab_eq, dstab_eq, dstab_eq, dstab_eq, dstab_eq, dstab_eq, dstab_eq, dstab_eq, dstab_eq, dstab_eq, dstab_eq, dstab_eq, trivial⟩ ?steps ?fin
    case steps =>
      refine ⟨?_, ?_, ?_, ?_, ?_, ?_, ?_, ?_, ?_, ?_, ?_, ?_, ?_, ?_, ?_, ?_, trivial⟩
      · intro vs g w2 hI hF hR K hK
        simp only [Facts, fill, Act.put, z1, z2, z3, z4, z5, Nat.reduceAdd] at hF hR hK ⊢
        go_simp
        refine (alive17_any _ (hw.below (q3.trans (hI.mono q3.size)))).mono ?_
        rintro e w3 ⟨rfl, hb⟩
        exact hK _ () _ (hI.trans (hb.mono hI.size)) hb rfl
      · intro vs g w2 hI hF hR K hK
        simp only [Facts, fill, Act.put, z1, z2, z3, z4, z5, Nat.reduceAdd] at hF hR hK ⊢
        obtain ⟨r0, -⟩ := hR
        generalize vs 0 = x0 at *
        subst r0
        go_simp
        exact hK _ () _ hI (Below.refl _ _) rfl
      · intro vs g w2 hI hF hR K hK
        simp only [Facts, fill, Act.put, z1, z2, z3, z4, z5, Nat.reduceAdd] at hF hR hK ⊢
        obtain ⟨r1, -⟩ := hR
        generalize vs 1 = x1 at *
        subst r1
        have k0 := (hI.cell (lt_of_cell k0)).trans k0
        have k1 := (hI.cell (lt_of_cell k1)).trans k1
        have k2 := (hI.cell (lt_of_cell k2)).trans k2
        have k3 := (hI.cell (lt_of_cell k3)).trans k3
        go_simp
        exact hK _ () _ hI (Below.refl _ _) rfl
      · intro vs g w2 hI hF hR K hK
        simp only [Facts, fill, Act.put, z1, z2, z3, z4, z5, Nat.reduceAdd] at hF hR hK ⊢
        obtain ⟨r1, r2, -⟩ := hR
        generalize vs 1 = x1, vs 2 = x2 at *
        subst r1 r2
        go_simp
        refine (hdrPayload_c op vx pts A n c rs p _ (hw.below (q3.trans (hI.mono q3.size))) (low_row (hr3.next hI)) HN.out hml hS hv HPa.out).mono ?_
        rintro e w3 ⟨rfl, hb⟩
        exact hK _ () _ (hI.trans (hb.mono hI.size)) hb rfl
      · intro vs g w2 hI hF hR K hK
        simp only [Facts, fill, Act.put, z1, z2, z3, z4, z5, Nat.reduceAdd] at hF hR hK ⊢
        obtain ⟨r1, -⟩ := hR
        generalize vs 1 = x1 at *
        subst r1
        have k0 := (hI.cell (lt_of_cell k0)).trans k0
        have k1 := (hI.cell (lt_of_cell k1)).trans k1
        have k2 := (hI.cell (lt_of_cell k2)).trans k2
        have k3 := (hI.cell (lt_of_cell k3)).trans k3
        go_simp
        exact hK _ () _ hI (Below.refl _ _) rfl
      · intro vs g w2 hI hF hR K hK
        simp only [Facts, fill, Act.put, z1, z2, z3, z4, z5, Nat.reduceAdd] at hF hR hK ⊢
        obtain ⟨r1, r4, -⟩ := hR
        generalize vs 1 = x1, vs 4 = x4 at *
        subst r1 r4
        go_simp
        refine (ref17Payload_any op vx pts A n c rs p _ _ (hr3.next hI) HN.out hk HPb.out).mono ?_
        rintro e w3 ⟨rfl, hb⟩
        exact hK _ () _ (hI.trans (hb.mono hI.size)) hb rfl
      · intro vs g w2 hI hF hR K hK
        simp only [Facts, fill, Act.put, z1, z2, z3, z4, z5, Nat.reduceAdd] at hF hR hK ⊢
        obtain ⟨r1, r3, r5, -⟩ := hR
        generalize vs 1 = x1, vs 3 = x3, vs 5 = x5 at *
        subst r1 r3 r5
        go_simp
        exact hK _ () _ hI (Below.refl _ _) rfl
      · intro vs g w2 hI hF hR K hK
        simp only [Facts, fill, Act.put, z1, z2, z3, z4, z5, Nat.reduceAdd] at hF hR hK ⊢
        obtain ⟨r1, r6, -⟩ := hR
        generalize vs 1 = x1, vs 6 = x6 at *
        subst r1 r6
        go_simp
        exact hK _ () _ hI (Below.refl _ _) rfl
      · intro vs g w2 hI hF hR K hK
        simp only [Facts, fill, Act.put, z1, z2, z3, z4, z5, Nat.reduceAdd] at hF hR hK ⊢
        obtain ⟨r7, -⟩ := hR
        generalize vs 7 = x7 at *
        subst r7
        go_simp
        exact hK _ () _ hI (Below.refl _ _) rfl
      · intro vs g w2 hI hF hR K hK
        simp only [Facts, fill, Act.put, z1, z2, z3, z4, z5, Nat.reduceAdd] at hF hR hK ⊢
        obtain ⟨r8, -⟩ := hR
        generalize vs 8 = x8 at *
        subst r8
        have k0 := (hI.cell (lt_of_cell k0)).trans k0
        have k1 := (hI.cell (lt_of_cell k1)).trans k1
        have k2 := (hI.cell (lt_of_cell k2)).trans k2
        have k3 := (hI.cell (lt_of_cell k3)).trans k3
        go_simp
        exact hK _ () _ hI (Below.refl _ _) rfl
      · intro vs g w2 hI hF hR K hK
        simp only [Facts, fill, Act.put, z1, z2, z3, z4, z5, Nat.reduceAdd] at hF hR hK ⊢
        obtain ⟨r8, r9, -⟩ := hR
        generalize vs 8 = x8, vs 9 = x9 at *
        subst r8 r9
        go_simp
        refine (hdrResponse_c op vx pts A n c rs r _ (hw.below (q3.trans (hI.mono q3.size))) (low_row (hr3.next hI)) HN.out hml hS hv HRs.out).mono ?_
        rintro e w3 ⟨rfl, hb⟩
        exact hK _ () _ (hI.trans (hb.mono hI.size)) hb rfl
      · intro vs g w2 hI hF hR K hK
        simp only [Facts, fill, Act.put, z1, z2, z3, z4, z5, Nat.reduceAdd] at hF hR hK ⊢
        obtain ⟨r8, -⟩ := hR
        generalize vs 8 = x8 at *
        subst r8
        have k0 := (hI.cell (lt_of_cell k0)).trans k0
        have k1 := (hI.cell (lt_of_cell k1)).trans k1
        have k2 := (hI.cell (lt_of_cell k2)).trans k2
        have k3 := (hI.cell (lt_of_cell k3)).trans k3
        go_simp
        exact hK _ () _ hI (Below.refl _ _) rfl
      · intro vs g w2 hI hF hR K hK
        simp only [Facts, fill, Act.put, z1, z2, z3, z4, z5, Nat.reduceAdd] at hF hR hK ⊢
        obtain ⟨r8, r11, -⟩ := hR
        generalize vs 8 = x8, vs 11 = x11 at *
        subst r8 r11
        go_simp
        refine (ref17Response_any op vx pts A n c (rs.map rgK) r _ hk HRb.out).mono ?_
        rintro e w3 ⟨rfl, hb⟩
        exact hK _ () _ (hI.trans (hb.mono hI.size)) hb rfl
      · intro vs g w2 hI hF hR K hK
        simp only [Facts, fill, Act.put, z1, z2, z3, z4, z5, Nat.reduceAdd] at hF hR hK ⊢
        obtain ⟨r8, r10, r12, -⟩ := hR
        generalize vs 8 = x8, vs 10 = x10, vs 12 = x12 at *
        subst r8 r10 r12
        go_simp
        exact hK _ () _ hI (Below.refl _ _) rfl
      · intro vs g w2 hI hF hR K hK
        simp only [Facts, fill, Act.put, z1, z2, z3, z4, z5, Nat.reduceAdd] at hF hR hK ⊢
        obtain ⟨r8, r13, -⟩ := hR
        generalize vs 8 = x8, vs 13 = x13 at *
        subst r8 r13
        go_simp
        exact hK _ () _ hI (Below.refl _ _) rfl
      · intro vs g w2 hI hF hR K hK
        simp only [Facts, fill, Act.put, z1, z2, z3, z4, z5, Nat.reduceAdd] at hF hR hK ⊢
        obtain ⟨r14, -⟩ := hR
        generalize vs 14 = x14 at *
        subst r14
        go_simp
        exact hK _ () _ hI (Below.refl _ _) rfl
    case fin =>
      intro vs w2 hI hR
      have r15 := hR 15 (by decide)
      simp only [fill, Act.put, z1, z2, z3, z4, z5] at r15 ⊢
      clear hR
      generalize vs 15 = x15 at *
      subst r15
      refine NoPanic.normal ?_
      go_wp2
      go_ret
      exact ⟨rfl, q3.trans (hI.mono q3.size)⟩
  · have HPa := Lib.hid (show (if formErr ⟨op, vx, rs.map rgK, pts⟩ (rgP rs) = 0 then payL ⟨op, vx, rs.map rgK, pts⟩ else 0) = 0 by rw [if_neg (by rw [HE.out]; exact he)])
    have HRs := Lib.hid (show (if formErr ⟨op, vx, rs.map rgK, pts⟩ (rgP rs) = 0 then rspL ⟨op, vx, rs.map rgK, pts⟩ else 0) = 0 by rw [if_neg (by rw [HE.out]; exact he)])
    have d1 : (er == 0) = false := by rw [beq_eq_false_iff_ne]; exact he
    have d2 : (er != 0) = true := by rw [bne_iff_ne]; exact he
    clear he
    go_wp2_with (fail)
    refine (alive17_any _ (hw.below q3)).mono ?_
    rintro e w5 ⟨rfl, hb5⟩
    have q05 := q03.trans (hb5.mono q03.size)
    have q5 := q3.trans (hb5.mono q3.size)
    clear k0 k1 k2 k3
    have j0 := (q05.cell (p := ⟨b0, 0, none⟩) (lt_of_cell c00)).trans c00
    have j1 := (q05.cell (p := ⟨b0, 1, none⟩) (lt_of_cell c01)).trans c01
    have j2 := (q05.cell (p := ⟨b0, 2, none⟩) (lt_of_cell c02)).trans c02
    have j3 := (q05.cell (p := ⟨b0, 3, none⟩) (lt_of_cell c03)).trans c03
    go_wp2_with (fail)
    refine (hdrPayload_c op vx pts A n c rs 0 _ (hw.below q5) (low_row (hr3.next hb5)) HN.out hml hS hv HPa.out).mono ?_
    rintro e w6 ⟨rfl, hb6⟩
    have q06 := q05.trans (hb6.mono q05.size)
    have q6 := q5.trans (hb6.mono q5.size)
    clear j0 j1 j2 j3
    have j0 := (q06.cell (p := ⟨b0, 0, none⟩) (lt_of_cell c00)).trans c00
    have j1 := (q06.cell (p := ⟨b0, 1, none⟩) (lt_of_cell c01)).trans c01
    have j2 := (q06.cell (p := ⟨b0, 2, none⟩) (lt_of_cell c02)).trans c02
    have j3 := (q06.cell (p := ⟨b0, 3, none⟩) (lt_of_cell c03)).trans c03
    go_wp2_with (fail)
    refine (hdrResponse_c op vx pts A n c rs 0 _ (hw.below q6) (low_row ((hr3.next hb5).next hb6)) HN.out hml hS hv HRs.out).mono ?_
    rintro e w7 ⟨rfl, hb7⟩
    go_wp2
    go_ret
    exact ⟨rfl, q6.trans (hb7.mono q6.size)⟩
end Go.Proofs.YtokabljeekokmaaDoor
