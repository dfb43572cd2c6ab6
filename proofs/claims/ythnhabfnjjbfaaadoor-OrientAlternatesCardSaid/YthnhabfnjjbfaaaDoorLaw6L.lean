/-
  Law OrientAlternates. (Written by law5.py.)
-/
import Derived.Test.YthnhabfnjjbfaaaDoorGen6
namespace Go.Proofs.YthnhabfnjjbfaaaDoor
open Go.RowKit
set_option maxRecDepth 100000
set_option linter.unusedVariables false
set_option linter.unusedSimpArgs false

set_option maxRecDepth 100000 in
set_option maxHeartbeats 4000000 in
theorem law_orientAlternates (xa ya xb yb xc yc : Int) (w : World) (hw : Wts w) (sxa : S xa) (sya : S ya) (sxb : S xb) (syb : S yb) (sxc : S xc) (syc : S yc) :
    Calls Tryd.prog 5 #[.agg #[.int .i64 xa, .int .i64 ya], .agg #[.int .i64 xb, .int .i64 yb], .agg #[.int .i64 xc, .int .i64 yc]] w fun e w' => e = .returned (.bool true) ∧ Below w.heap.size w w' := by
  obtain ⟨W, hW⟩ : ∃ W, W = ((w.alloc (.cells #[.int .i64 xa, .int .i64 ya] 23)).alloc (.cells #[.int .i64 xb, .int .i64 yb] 23)).alloc (.cells #[.int .i64 xc, .int .i64 yc] 23) := ⟨_, rfl⟩
  have hb0 : Below w.heap.size w W := by rw [hW]; exact ((((Below.refl _ _).alloc (Nat.le_refl _) _).alloc (by simp) _).alloc (by simp; omega) _)
  have Ca_W_0 := Lib.hid (show W.cell? ⟨w.heap.size, 0, none⟩ = some (.int .i64 xa) by rw [hW]; simp [go_sem])
  have Ca_W_1 := Lib.hid (show W.cell? ⟨w.heap.size, 1, none⟩ = some (.int .i64 ya) by rw [hW]; simp [go_sem])
  have Cb_W_0 := Lib.hid (show W.cell? ⟨w.heap.size + 1, 0, none⟩ = some (.int .i64 xb) by rw [hW]; simp [go_sem])
  have Cb_W_1 := Lib.hid (show W.cell? ⟨w.heap.size + 1, 1, none⟩ = some (.int .i64 yb) by rw [hW]; simp [go_sem])
  have Cc_W_0 := Lib.hid (show W.cell? ⟨w.heap.size + 1 + 1, 0, none⟩ = some (.int .i64 xc) by rw [hW]; simp [go_sem])
  have Cc_W_1 := Lib.hid (show W.cell? ⟨w.heap.size + 1 + 1, 1, none⟩ = some (.int .i64 yc) by rw [hW]; simp [go_sem])
  have HW := Lib.hid hW
  clear hW
  go_enter Tryd.func5, Tryd.ntmps5
  go_upto_region 1 with (fail)
  rw [← HW.out]
  refine box_plan (c := ⟨w, W, (fun _ => none)⟩) (Ctx.ok_none hb0) (by kernel_rfl) [[], [], [], [(9, 0), (10, 1), (11, 2)], [], [], [], [(13, 4), (14, 5), (15, 6)], [(12, 3)], [(16, 7)]] [(9, 0), (10, 1), (11, 2), (12, 3), (13, 4), (14, 5), (15, 6), (16, 7), (7, 8), (8, 9)] [
      (fun v _ _ => v = .agg #[.int .i64 xa, .int .i64 ya]),
      (fun v _ _ => v = .agg #[.int .i64 xb, .int .i64 yb]),
      (fun v _ _ => v = .agg #[.int .i64 xc, .int .i64 yc]),
      LimR 3 (det xa ya xb yb xc yc),
      (fun v _ _ => v = .agg #[.int .i64 xb, .int .i64 yb]),
      (fun v _ _ => v = .agg #[.int .i64 xa, .int .i64 ya]),
      (fun v _ _ => v = .agg #[.int .i64 xc, .int .i64 yc]),
      LimR 3 (det xb yb xa ya xc yc),
      LimR 3 (det xa ya xb yb xc yc),
      LimR 3 (det xb yb xa ya xc yc)
    ] (fun _ => none) (by kernel_rfl) (by kernel_rfl) ⟨stab_eq, stab_eq, stab_eq, stab_firm (limR_firm _ _), stab_eq, stab_eq, stab_eq, stab_firm (limR_firm _ _), stab_firm (limR_firm _ _), stab_firm (limR_firm _ _), trivial⟩ ?steps ?fin
  case steps =>
    refine ⟨?_, ?_, ?_, ?_, ?_, ?_, ?_, ?_, ?_, ?_, trivial⟩
    · intro vs g w2 hI hF hR K hK
      simp only [Facts, fill, Act.put, z1, z2, z3, z4, z5, Nat.reduceAdd] at hF hR hK ⊢
      have k0 := hI.cell Ca_W_0.out (fun _ h => by cases h)
      have k1 := hI.cell Ca_W_1.out (fun _ h => by cases h)
      go_simp
      exact hK _ _ _ hI (Step.refl hI) rfl
    · intro vs g w2 hI hF hR K hK
      simp only [Facts, fill, Act.put, z1, z2, z3, z4, z5, Nat.reduceAdd] at hF hR hK ⊢
      have k0 := hI.cell Cb_W_0.out (fun _ h => by cases h)
      have k1 := hI.cell Cb_W_1.out (fun _ h => by cases h)
      go_simp
      exact hK _ _ _ hI (Step.refl hI) rfl
    · intro vs g w2 hI hF hR K hK
      simp only [Facts, fill, Act.put, z1, z2, z3, z4, z5, Nat.reduceAdd] at hF hR hK ⊢
      have k0 := hI.cell Cc_W_0.out (fun _ h => by cases h)
      have k1 := hI.cell Cc_W_1.out (fun _ h => by cases h)
      go_simp
      exact hK _ _ _ hI (Step.refl hI) rfl
    · intro vs g w2 hI hF hR K hK
      simp only [Facts, fill, Act.put, z1, z2, z3, z4, z5, Nat.reduceAdd] at hF hR hK ⊢
      obtain ⟨r0, r1, r2, -⟩ := hR
      generalize vs 0 = x0, vs 1 = x1, vs 2 = x2 at *
      subst r0 r1 r2
      go_simp
      refine (gOrientValue hI hw (by first | assumption | (unfold S; decide)) (by first | assumption | (unfold S; decide)) (by first | assumption | (unfold S; decide)) (by first | assumption | (unfold S; decide)) (by first | assumption | (unfold S; decide)) (by first | assumption | (unfold S; decide))).mono ?_
      rintro e w3 ⟨v3, rfl, hv, hb⟩
      exact hK _ _ _ (hI.call hb) (Step.call hI hb) hv
    · intro vs g w2 hI hF hR K hK
      simp only [Facts, fill, Act.put, z1, z2, z3, z4, z5, Nat.reduceAdd] at hF hR hK ⊢
      have k0 := hI.cell Cb_W_0.out (fun _ h => by cases h)
      have k1 := hI.cell Cb_W_1.out (fun _ h => by cases h)
      go_simp
      exact hK _ _ _ hI (Step.refl hI) rfl
    · intro vs g w2 hI hF hR K hK
      simp only [Facts, fill, Act.put, z1, z2, z3, z4, z5, Nat.reduceAdd] at hF hR hK ⊢
      have k0 := hI.cell Ca_W_0.out (fun _ h => by cases h)
      have k1 := hI.cell Ca_W_1.out (fun _ h => by cases h)
      go_simp
      exact hK _ _ _ hI (Step.refl hI) rfl
    · intro vs g w2 hI hF hR K hK
      simp only [Facts, fill, Act.put, z1, z2, z3, z4, z5, Nat.reduceAdd] at hF hR hK ⊢
      have k0 := hI.cell Cc_W_0.out (fun _ h => by cases h)
      have k1 := hI.cell Cc_W_1.out (fun _ h => by cases h)
      go_simp
      exact hK _ _ _ hI (Step.refl hI) rfl
    · intro vs g w2 hI hF hR K hK
      simp only [Facts, fill, Act.put, z1, z2, z3, z4, z5, Nat.reduceAdd] at hF hR hK ⊢
      obtain ⟨r4, r5, r6, -⟩ := hR
      generalize vs 4 = x4, vs 5 = x5, vs 6 = x6 at *
      subst r4 r5 r6
      go_simp
      refine (gOrientValue hI hw (by first | assumption | (unfold S; decide)) (by first | assumption | (unfold S; decide)) (by first | assumption | (unfold S; decide)) (by first | assumption | (unfold S; decide)) (by first | assumption | (unfold S; decide)) (by first | assumption | (unfold S; decide))).mono ?_
      rintro e w3 ⟨v3, rfl, hv, hb⟩
      exact hK _ _ _ (hI.call hb) (Step.call hI hb) hv
    · intro vs g w2 hI hF hR K hK
      simp only [Facts, fill, Act.put, z1, z2, z3, z4, z5, Nat.reduceAdd] at hF hR hK ⊢
      obtain ⟨r3, -⟩ := hR
      generalize vs 3 = x3 at *
      go_simp
      exact hK _ _ _ hI (Step.refl hI) r3
    · intro vs g w2 hI hF hR K hK
      simp only [Facts, fill, Act.put, z1, z2, z3, z4, z5, Nat.reduceAdd] at hF hR hK ⊢
      obtain ⟨r7, -⟩ := hR
      generalize vs 7 = x7 at *
      go_simp
      exact hK _ _ _ hI (Step.refl hI) r7
  case fin =>
    intro vs g wR1 hI hR
    have r8 := hR 8 (by decide)
    have r9 := hR 9 (by decide)
    simp only [fill, Act.put, z1, z2, z3, z4, z5] at r8 r9 ⊢
    clear hR
    generalize vs 8 = x8 at *
    generalize vs 9 = x9 at *
    have Ca_R1_0 := Lib.hid (hI.cell Ca_W_0.out (fun _ h => by cases h))
    have Ca_R1_1 := Lib.hid (hI.cell Ca_W_1.out (fun _ h => by cases h))
    have Cb_R1_0 := Lib.hid (hI.cell Cb_W_0.out (fun _ h => by cases h))
    have Cb_R1_1 := Lib.hid (hI.cell Cb_W_1.out (fun _ h => by cases h))
    have Cc_R1_0 := Lib.hid (hI.cell Cc_W_0.out (fun _ h => by cases h))
    have Cc_R1_1 := Lib.hid (hI.cell Cc_W_1.out (fun _ h => by cases h))
    have qfR17 := r8
    obtain ⟨AvR17, cvR17, rfl⟩ := limR_open r8
    have FR17_R1_0 := Lib.hid ((limR_firm _ _) _ _ _ _ _ qfR17 hI.back)
    clear qfR17
    have qfR18 := r9
    obtain ⟨AvR18, cvR18, rfl⟩ := limR_open r9
    have FR18_R1_0 := Lib.hid ((limR_firm _ _) _ _ _ _ _ qfR18 hI.back)
    clear qfR18
    have hBR1 := hI.below
    have HCR1 := hI.next (Ctx.ok_none hb0)
    clear hI
    go_upto_region 2 with (fail)
    refine box_plan0 (c := ⟨w, wR1, (fun _ => none)⟩) HCR1 [[], [(17, 0)], [(18, 1)], [(19, 2)], [(20, 3)], [(20, 3), (21, 4)], [(20, 3), (22, 5)], [(20, 3), (23, 6)]] [(17, 0), (18, 1), (19, 2), (20, 3), (21, 4), (22, 5), (23, 6), (24, 7)] [
        (fun v _ _ => v = .slice AvR17 3 cvR17),
        (fun v _ _ => v = .int .i64 3),
        (fun v _ _ => v = .bool false),
        (fun v _ _ => v = .bool false),
        (fun v _ _ => v = .slice AvR18 3 cvR18),
        (fun v _ _ => v = .int .i64 3),
        (fun v _ _ => v = .bool false),
        (fun v _ _ => v = .bool false)
      ] (fun _ => none) (by kernel_rfl) (by kernel_rfl) ⟨stab_eq, stab_eq, stab_eq, stab_eq, stab_eq, stab_eq, stab_eq, stab_eq, trivial⟩ ?steps ?fin
    case steps =>
      refine ⟨?_, ?_, ?_, ?_, ?_, ?_, ?_, ?_, trivial⟩
      · intro vs g w2 hI hF hR K hK
        simp only [Facts, fill, Act.put, z1, z2, z3, z4, z5, Nat.reduceAdd] at hF hR hK ⊢
        go_simp
        exact hK _ _ _ hI (Step.refl hI) rfl
      · intro vs g w2 hI hF hR K hK
        simp only [Facts, fill, Act.put, z1, z2, z3, z4, z5, Nat.reduceAdd] at hF hR hK ⊢
        obtain ⟨r0, -⟩ := hR
        generalize vs 0 = x0 at *
        subst r0
        go_simp
        exact hK _ _ _ hI (Step.refl hI) rfl
      · intro vs g w2 hI hF hR K hK
        simp only [Facts, fill, Act.put, z1, z2, z3, z4, z5, Nat.reduceAdd] at hF hR hK ⊢
        obtain ⟨r1, -⟩ := hR
        generalize vs 1 = x1 at *
        subst r1
        go_simp
        exact hK _ _ _ hI (Step.refl hI) rfl
      · intro vs g w2 hI hF hR K hK
        simp only [Facts, fill, Act.put, z1, z2, z3, z4, z5, Nat.reduceAdd] at hF hR hK ⊢
        obtain ⟨r2, -⟩ := hR
        generalize vs 2 = x2 at *
        subst r2
        go_simp
        exact hK _ _ _ hI (Step.refl hI) rfl
      · intro vs g w2 hI hF hR K hK
        simp only [Facts, fill, Act.put, z1, z2, z3, z4, z5, Nat.reduceAdd] at hF hR hK ⊢
        obtain ⟨r3, -⟩ := hR
        generalize vs 3 = x3 at *
        subst r3
        go_simp
        exact hK _ _ _ hI (Step.refl hI) rfl
      · intro vs g w2 hI hF hR K hK
        simp only [Facts, fill, Act.put, z1, z2, z3, z4, z5, Nat.reduceAdd] at hF hR hK ⊢
        obtain ⟨r3, r4, -⟩ := hR
        generalize vs 3 = x3, vs 4 = x4 at *
        subst r3 r4
        go_simp
        exact hK _ _ _ hI (Step.refl hI) rfl
      · intro vs g w2 hI hF hR K hK
        simp only [Facts, fill, Act.put, z1, z2, z3, z4, z5, Nat.reduceAdd] at hF hR hK ⊢
        obtain ⟨r3, r5, -⟩ := hR
        generalize vs 3 = x3, vs 5 = x5 at *
        subst r3 r5
        go_simp
        exact hK _ _ _ hI (Step.refl hI) rfl
      · intro vs g w2 hI hF hR K hK
        simp only [Facts, fill, Act.put, z1, z2, z3, z4, z5, Nat.reduceAdd] at hF hR hK ⊢
        obtain ⟨r3, r6, -⟩ := hR
        generalize vs 3 = x3, vs 6 = x6 at *
        subst r3 r6
        go_simp
        exact hK _ _ _ hI (Step.refl hI) rfl
    case fin =>
      intro vs g wR2 hI hR
      have r7 := hR 7 (by decide)
      simp only [fill, Act.put, z1, z2, z3, z4, z5] at r7 ⊢
      clear hR
      generalize vs 7 = x7 at *
      have Ca_R2_0 := Lib.hid (hI.cell Ca_R1_0.out (fun _ h => by cases h))
      have Ca_R2_1 := Lib.hid (hI.cell Ca_R1_1.out (fun _ h => by cases h))
      have Cb_R2_0 := Lib.hid (hI.cell Cb_R1_0.out (fun _ h => by cases h))
      have Cb_R2_1 := Lib.hid (hI.cell Cb_R1_1.out (fun _ h => by cases h))
      have Cc_R2_0 := Lib.hid (hI.cell Cc_R1_0.out (fun _ h => by cases h))
      have Cc_R2_1 := Lib.hid (hI.cell Cc_R1_1.out (fun _ h => by cases h))
      have FR17_R2_0 := Lib.hid ((limR_firm _ _) _ _ _ _ _ FR17_R1_0.out hI.carry)
      have FR18_R2_0 := Lib.hid ((limR_firm _ _) _ _ _ _ _ FR18_R1_0.out hI.carry)
      subst r7
      have hBR2 := hI.below
      have HCR2 := hI.next HCR1
      clear hI
      go_upto_region 4 with (fail)
      refine box_plan (c := ⟨w, wR2, (fun _ => none)⟩) HCR2 (by kernel_rfl) [[], [(25, 0)], [(26, 1)], [(26, 1), (27, 2)], [(26, 1)], [(26, 1), (29, 4)], [(26, 1), (28, 3), (30, 5)], [(26, 1), (31, 6)], [(26, 1), (32, 7)], [(26, 1), (33, 8)], [(34, 9)], [(35, 10)], [(35, 10)], [(35, 10)], [(35, 10)], [(35, 10), (37, 12), (38, 13), (39, 14)], [(35, 10), (36, 11), (40, 15)], [(35, 10), (41, 16)], [(42, 17)], [(43, 18)], [(43, 18)], [(43, 18)], [(43, 18)], [(43, 18), (45, 20), (46, 21), (47, 22)], [(43, 18), (44, 19), (48, 23)], [(43, 18), (49, 24)], [(50, 25)], [(51, 26)], [(51, 26)], [(51, 26)], [(51, 26), (52, 27), (53, 28), (54, 29)], [(51, 26)], [(51, 26)], [(51, 26)], [(51, 26), (56, 31), (57, 32), (58, 33)], [(51, 26), (59, 34)], [(51, 26), (55, 30), (60, 35)], [(51, 26), (61, 36)], [(62, 37)]] [(25, 0), (26, 1), (27, 2), (28, 3), (29, 4), (30, 5), (31, 6), (32, 7), (33, 8), (34, 9), (35, 10), (36, 11), (37, 12), (38, 13), (39, 14), (40, 15), (41, 16), (42, 17), (43, 18), (44, 19), (45, 20), (46, 21), (47, 22), (48, 23), (49, 24), (50, 25), (51, 26), (52, 27), (53, 28), (54, 29), (55, 30), (56, 31), (57, 32), (58, 33), (59, 34), (60, 35), (61, 36), (62, 37), (6, 38)] [
          (fun v _ _ => v = .bool true),
          (fun v _ _ => v = .bool true),
          (fun v _ _ => v = .slice AvR17 3 cvR17),
          NumG 14 (det xa ya xb yb xc yc),
          (fun v _ _ => v = .slice AvR18 3 cvR18),
          NumG 14 (det xb yb xa ya xc yc),
          NumG 15 ((det xa ya xb yb xc yc) + (det xb yb xa ya xc yc)),
          SignR ((det xa ya xb yb xc yc) + (det xb yb xa ya xc yc)),
          (fun v _ _ => v = .bool true),
          (fun v _ _ => v = .bool true),
          (fun v _ _ => v = .bool true),
          (fun v _ _ => v = .slice AvR17 3 cvR17),
          (fun v _ _ => v = .agg #[.int .i64 xb, .int .i64 yb]),
          (fun v _ _ => v = .agg #[.int .i64 xc, .int .i64 yc]),
          (fun v _ _ => v = .agg #[.int .i64 xa, .int .i64 ya]),
          LimR 3 (det xb yb xc yc xa ya),
          (fun v _ _ => v = .bool true),
          (fun v _ _ => v = .bool true),
          (fun v _ _ => v = .bool true),
          (fun v _ _ => v = .slice AvR17 3 cvR17),
          (fun v _ _ => v = .agg #[.int .i64 xc, .int .i64 yc]),
          (fun v _ _ => v = .agg #[.int .i64 xa, .int .i64 ya]),
          (fun v _ _ => v = .agg #[.int .i64 xb, .int .i64 yb]),
          LimR 3 (det xc yc xa ya xb yb),
          (fun v _ _ => v = .bool true),
          (fun v _ _ => v = .bool true),
          (fun v _ _ => v = .bool true),
          (fun v _ _ => v = .agg #[.int .i64 xa, .int .i64 ya]),
          (fun v _ _ => v = .agg #[.int .i64 xb, .int .i64 yb]),
          (fun v _ _ => v = .agg #[.int .i64 xc, .int .i64 yc]),
          SignR (det xa ya xb yb xc yc),
          (fun v _ _ => v = .agg #[.int .i64 xa, .int .i64 ya]),
          (fun v _ _ => v = .agg #[.int .i64 xc, .int .i64 yc]),
          (fun v _ _ => v = .agg #[.int .i64 xb, .int .i64 yb]),
          SignR (det xa ya xc yc xb yb),
          SignR (-(det xa ya xc yc xb yb)),
          (fun v _ _ => v = .bool true),
          (fun v _ _ => v = .bool true),
          (fun v _ _ => v = .bool true)
        ] (fun _ => none) (by kernel_rfl) (by kernel_rfl) ⟨stab_eq, stab_eq, stab_eq, stab_firm (numG_firm _ _), stab_eq, stab_firm (numG_firm _ _), stab_firm (numG_firm _ _), stab_firm (signR_firm _), stab_eq, stab_eq, stab_eq, stab_eq, stab_eq, stab_eq, stab_eq, stab_firm (limR_firm _ _), stab_eq, stab_eq, stab_eq, stab_eq, stab_eq, stab_eq, stab_eq, stab_firm (limR_firm _ _), stab_eq, stab_eq, stab_eq, stab_eq, stab_eq, stab_eq, stab_firm (signR_firm _), stab_eq, stab_eq, stab_eq, stab_firm (signR_firm _), stab_firm (signR_firm _), stab_eq, stab_eq, stab_eq, trivial⟩ ?steps ?fin
      case steps =>
        refine ⟨?_, ?_, ?_, ?_, ?_, ?_, ?_, ?_, ?_, ?_, ?_, ?_, ?_, ?_, ?_, ?_, ?_, ?_, ?_, ?_, ?_, ?_, ?_, ?_, ?_, ?_, ?_, ?_, ?_, ?_, ?_, ?_, ?_, ?_, ?_, ?_, ?_, ?_, ?_, trivial⟩
        · intro vs g w2 hI hF hR K hK
          simp only [Facts, fill, Act.put, z1, z2, z3, z4, z5, Nat.reduceAdd] at hF hR hK ⊢
          go_simp
          refine (gAlive6 hI hw).mono ?_
          rintro e w3 ⟨v3, rfl, hv, hb⟩
          exact hK _ _ _ (hI.call hb) (Step.call hI hb) hv
        · intro vs g w2 hI hF hR K hK
          simp only [Facts, fill, Act.put, z1, z2, z3, z4, z5, Nat.reduceAdd] at hF hR hK ⊢
          obtain ⟨r0, -⟩ := hR
          generalize vs 0 = x0 at *
          subst r0
          go_simp
          exact hK _ _ _ hI (Step.refl hI) rfl
        · intro vs g w2 hI hF hR K hK
          simp only [Facts, fill, Act.put, z1, z2, z3, z4, z5, Nat.reduceAdd] at hF hR hK ⊢
          obtain ⟨r1, -⟩ := hR
          generalize vs 1 = x1 at *
          subst r1
          go_simp
          exact hK _ _ _ hI (Step.refl hI) rfl
        · intro vs g w2 hI hF hR K hK
          simp only [Facts, fill, Act.put, z1, z2, z3, z4, z5, Nat.reduceAdd] at hF hR hK ⊢
          obtain ⟨r1, r2, -⟩ := hR
          generalize vs 1 = x1, vs 2 = x2 at *
          subst r1 r2
          go_simp
          refine (gValueF hI ((limR_firm _ _) _ _ _ _ _ FR17_R2_0.out hI.keeps) (by decide) (det_fit (by first | assumption | (unfold S; decide)) (by first | assumption | (unfold S; decide)) (by first | assumption | (unfold S; decide)) (by first | assumption | (unfold S; decide)) (by first | assumption | (unfold S; decide)) (by first | assumption | (unfold S; decide)))).mono ?_
          rintro e w3 ⟨v3, rfl, hv, hb⟩
          exact hK _ _ _ (hI.call hb) (Step.call hI hb) hv
        · intro vs g w2 hI hF hR K hK
          simp only [Facts, fill, Act.put, z1, z2, z3, z4, z5, Nat.reduceAdd] at hF hR hK ⊢
          obtain ⟨r1, -⟩ := hR
          generalize vs 1 = x1 at *
          subst r1
          go_simp
          exact hK _ _ _ hI (Step.refl hI) rfl
        · intro vs g w2 hI hF hR K hK
          simp only [Facts, fill, Act.put, z1, z2, z3, z4, z5, Nat.reduceAdd] at hF hR hK ⊢
          obtain ⟨r1, r4, -⟩ := hR
          generalize vs 1 = x1, vs 4 = x4 at *
          subst r1 r4
          go_simp
          refine (gValueF hI ((limR_firm _ _) _ _ _ _ _ FR18_R2_0.out hI.keeps) (by decide) (det_fit (by first | assumption | (unfold S; decide)) (by first | assumption | (unfold S; decide)) (by first | assumption | (unfold S; decide)) (by first | assumption | (unfold S; decide)) (by first | assumption | (unfold S; decide)) (by first | assumption | (unfold S; decide)))).mono ?_
          rintro e w3 ⟨v3, rfl, hv, hb⟩
          exact hK _ _ _ (hI.call hb) (Step.call hI hb) hv
        · intro vs g w2 hI hF hR K hK
          simp only [Facts, fill, Act.put, z1, z2, z3, z4, z5, Nat.reduceAdd] at hF hR hK ⊢
          obtain ⟨r1, r3, r5, -⟩ := hR
          generalize vs 1 = x1, vs 3 = x3, vs 5 = x5 at *
          subst r1
          go_simp
          refine (gAdd hI r3 r5 (by decide) (by decide)).mono ?_
          rintro e w3 ⟨v3, rfl, hv, hb⟩
          exact hK _ _ _ (hI.call hb) (Step.call hI hb) hv
        · intro vs g w2 hI hF hR K hK
          simp only [Facts, fill, Act.put, z1, z2, z3, z4, z5, Nat.reduceAdd] at hF hR hK ⊢
          obtain ⟨r1, r6, -⟩ := hR
          generalize vs 1 = x1, vs 6 = x6 at *
          subst r1
          obtain ⟨s7, A7, n7, c7, rfl, hs7⟩ := numG_open r6
          go_simp
          exact hK _ _ _ hI (Step.refl hI) hs7
        · intro vs g w2 hI hF hR K hK
          simp only [Facts, fill, Act.put, z1, z2, z3, z4, z5, Nat.reduceAdd] at hF hR hK ⊢
          obtain ⟨r1, r7, -⟩ := hR
          generalize vs 1 = x1, vs 7 = x7 at *
          subst r1
          obtain ⟨s8, rfl, hs8⟩ := r7
          have hz := sign_is (x := (det xa ya xb yb xc yc) + (det xb yb xa ya xc yc)) (k := 0) ⟨s8, rfl, hs8⟩ (by rw [Int.sign_eq_zero_iff_zero]; (unfold det; grind))
          clear hs8
          go_simp
          exact hK _ _ _ hI (Step.refl hI) rfl
        · intro vs g w2 hI hF hR K hK
          simp only [Facts, fill, Act.put, z1, z2, z3, z4, z5, Nat.reduceAdd] at hF hR hK ⊢
          obtain ⟨r1, r8, -⟩ := hR
          generalize vs 1 = x1, vs 8 = x8 at *
          subst r1 r8
          go_simp
          exact hK _ _ _ hI (Step.refl hI) rfl
        · intro vs g w2 hI hF hR K hK
          simp only [Facts, fill, Act.put, z1, z2, z3, z4, z5, Nat.reduceAdd] at hF hR hK ⊢
          obtain ⟨r9, -⟩ := hR
          generalize vs 9 = x9 at *
          subst r9
          go_simp
          exact hK _ _ _ hI (Step.refl hI) rfl
        · intro vs g w2 hI hF hR K hK
          simp only [Facts, fill, Act.put, z1, z2, z3, z4, z5, Nat.reduceAdd] at hF hR hK ⊢
          obtain ⟨r10, -⟩ := hR
          generalize vs 10 = x10 at *
          subst r10
          go_simp
          exact hK _ _ _ hI (Step.refl hI) rfl
        · intro vs g w2 hI hF hR K hK
          simp only [Facts, fill, Act.put, z1, z2, z3, z4, z5, Nat.reduceAdd] at hF hR hK ⊢
          obtain ⟨r10, -⟩ := hR
          generalize vs 10 = x10 at *
          subst r10
          have k0 := hI.cell Cb_R2_0.out (fun _ h => by cases h)
          have k1 := hI.cell Cb_R2_1.out (fun _ h => by cases h)
          go_simp
          exact hK _ _ _ hI (Step.refl hI) rfl
        · intro vs g w2 hI hF hR K hK
          simp only [Facts, fill, Act.put, z1, z2, z3, z4, z5, Nat.reduceAdd] at hF hR hK ⊢
          obtain ⟨r10, -⟩ := hR
          generalize vs 10 = x10 at *
          subst r10
          have k0 := hI.cell Cc_R2_0.out (fun _ h => by cases h)
          have k1 := hI.cell Cc_R2_1.out (fun _ h => by cases h)
          go_simp
          exact hK _ _ _ hI (Step.refl hI) rfl
        · intro vs g w2 hI hF hR K hK
          simp only [Facts, fill, Act.put, z1, z2, z3, z4, z5, Nat.reduceAdd] at hF hR hK ⊢
          obtain ⟨r10, -⟩ := hR
          generalize vs 10 = x10 at *
          subst r10
          have k0 := hI.cell Ca_R2_0.out (fun _ h => by cases h)
          have k1 := hI.cell Ca_R2_1.out (fun _ h => by cases h)
          go_simp
          exact hK _ _ _ hI (Step.refl hI) rfl
        · intro vs g w2 hI hF hR K hK
          simp only [Facts, fill, Act.put, z1, z2, z3, z4, z5, Nat.reduceAdd] at hF hR hK ⊢
          obtain ⟨r10, r12, r13, r14, -⟩ := hR
          generalize vs 10 = x10, vs 12 = x12, vs 13 = x13, vs 14 = x14 at *
          subst r10 r12 r13 r14
          go_simp
          refine (gOrientValue hI hw (by first | assumption | (unfold S; decide)) (by first | assumption | (unfold S; decide)) (by first | assumption | (unfold S; decide)) (by first | assumption | (unfold S; decide)) (by first | assumption | (unfold S; decide)) (by first | assumption | (unfold S; decide))).mono ?_
          rintro e w3 ⟨v3, rfl, hv, hb⟩
          exact hK _ _ _ (hI.call hb) (Step.call hI hb) hv
        · intro vs g w2 hI hF hR K hK
          simp only [Facts, fill, Act.put, z1, z2, z3, z4, z5, Nat.reduceAdd] at hF hR hK ⊢
          obtain ⟨r10, r11, r15, -⟩ := hR
          generalize vs 10 = x10, vs 11 = x11, vs 15 = x15 at *
          subst r10 r11
          go_simp
          refine (gSame ((limR_firm _ _) _ _ _ _ _ FR17_R2_0.out hI.keeps) r15 (by decide) (by first | rfl | decide +kernel | (congr 1; unfold det; grind))).mono ?_
          rintro e w3 ⟨v3, rfl, hv, hb⟩
          exact hK _ _ _ (hI.call hb) (Step.call hI hb) hv
        · intro vs g w2 hI hF hR K hK
          simp only [Facts, fill, Act.put, z1, z2, z3, z4, z5, Nat.reduceAdd] at hF hR hK ⊢
          obtain ⟨r10, r16, -⟩ := hR
          generalize vs 10 = x10, vs 16 = x16 at *
          subst r10 r16
          go_simp
          exact hK _ _ _ hI (Step.refl hI) rfl
        · intro vs g w2 hI hF hR K hK
          simp only [Facts, fill, Act.put, z1, z2, z3, z4, z5, Nat.reduceAdd] at hF hR hK ⊢
          obtain ⟨r17, -⟩ := hR
          generalize vs 17 = x17 at *
          subst r17
          go_simp
          exact hK _ _ _ hI (Step.refl hI) rfl
        · intro vs g w2 hI hF hR K hK
          simp only [Facts, fill, Act.put, z1, z2, z3, z4, z5, Nat.reduceAdd] at hF hR hK ⊢
          obtain ⟨r18, -⟩ := hR
          generalize vs 18 = x18 at *
          subst r18
          go_simp
          exact hK _ _ _ hI (Step.refl hI) rfl
        · intro vs g w2 hI hF hR K hK
          simp only [Facts, fill, Act.put, z1, z2, z3, z4, z5, Nat.reduceAdd] at hF hR hK ⊢
          obtain ⟨r18, -⟩ := hR
          generalize vs 18 = x18 at *
          subst r18
          have k0 := hI.cell Cc_R2_0.out (fun _ h => by cases h)
          have k1 := hI.cell Cc_R2_1.out (fun _ h => by cases h)
          go_simp
          exact hK _ _ _ hI (Step.refl hI) rfl
        · intro vs g w2 hI hF hR K hK
          simp only [Facts, fill, Act.put, z1, z2, z3, z4, z5, Nat.reduceAdd] at hF hR hK ⊢
          obtain ⟨r18, -⟩ := hR
          generalize vs 18 = x18 at *
          subst r18
          have k0 := hI.cell Ca_R2_0.out (fun _ h => by cases h)
          have k1 := hI.cell Ca_R2_1.out (fun _ h => by cases h)
          go_simp
          exact hK _ _ _ hI (Step.refl hI) rfl
        · intro vs g w2 hI hF hR K hK
          simp only [Facts, fill, Act.put, z1, z2, z3, z4, z5, Nat.reduceAdd] at hF hR hK ⊢
          obtain ⟨r18, -⟩ := hR
          generalize vs 18 = x18 at *
          subst r18
          have k0 := hI.cell Cb_R2_0.out (fun _ h => by cases h)
          have k1 := hI.cell Cb_R2_1.out (fun _ h => by cases h)
          go_simp
          exact hK _ _ _ hI (Step.refl hI) rfl
        · intro vs g w2 hI hF hR K hK
          simp only [Facts, fill, Act.put, z1, z2, z3, z4, z5, Nat.reduceAdd] at hF hR hK ⊢
          obtain ⟨r18, r20, r21, r22, -⟩ := hR
          generalize vs 18 = x18, vs 20 = x20, vs 21 = x21, vs 22 = x22 at *
          subst r18 r20 r21 r22
          go_simp
          refine (gOrientValue hI hw (by first | assumption | (unfold S; decide)) (by first | assumption | (unfold S; decide)) (by first | assumption | (unfold S; decide)) (by first | assumption | (unfold S; decide)) (by first | assumption | (unfold S; decide)) (by first | assumption | (unfold S; decide))).mono ?_
          rintro e w3 ⟨v3, rfl, hv, hb⟩
          exact hK _ _ _ (hI.call hb) (Step.call hI hb) hv
        · intro vs g w2 hI hF hR K hK
          simp only [Facts, fill, Act.put, z1, z2, z3, z4, z5, Nat.reduceAdd] at hF hR hK ⊢
          obtain ⟨r18, r19, r23, -⟩ := hR
          generalize vs 18 = x18, vs 19 = x19, vs 23 = x23 at *
          subst r18 r19
          go_simp
          refine (gSame ((limR_firm _ _) _ _ _ _ _ FR17_R2_0.out hI.keeps) r23 (by decide) (by first | rfl | decide +kernel | (congr 1; unfold det; grind))).mono ?_
          rintro e w3 ⟨v3, rfl, hv, hb⟩
          exact hK _ _ _ (hI.call hb) (Step.call hI hb) hv
        · intro vs g w2 hI hF hR K hK
          simp only [Facts, fill, Act.put, z1, z2, z3, z4, z5, Nat.reduceAdd] at hF hR hK ⊢
          obtain ⟨r18, r24, -⟩ := hR
          generalize vs 18 = x18, vs 24 = x24 at *
          subst r18 r24
          go_simp
          exact hK _ _ _ hI (Step.refl hI) rfl
        · intro vs g w2 hI hF hR K hK
          simp only [Facts, fill, Act.put, z1, z2, z3, z4, z5, Nat.reduceAdd] at hF hR hK ⊢
          obtain ⟨r25, -⟩ := hR
          generalize vs 25 = x25 at *
          subst r25
          go_simp
          exact hK _ _ _ hI (Step.refl hI) rfl
        · intro vs g w2 hI hF hR K hK
          simp only [Facts, fill, Act.put, z1, z2, z3, z4, z5, Nat.reduceAdd] at hF hR hK ⊢
          obtain ⟨r26, -⟩ := hR
          generalize vs 26 = x26 at *
          subst r26
          have k0 := hI.cell Ca_R2_0.out (fun _ h => by cases h)
          have k1 := hI.cell Ca_R2_1.out (fun _ h => by cases h)
          go_simp
          exact hK _ _ _ hI (Step.refl hI) rfl
        · intro vs g w2 hI hF hR K hK
          simp only [Facts, fill, Act.put, z1, z2, z3, z4, z5, Nat.reduceAdd] at hF hR hK ⊢
          obtain ⟨r26, -⟩ := hR
          generalize vs 26 = x26 at *
          subst r26
          have k0 := hI.cell Cb_R2_0.out (fun _ h => by cases h)
          have k1 := hI.cell Cb_R2_1.out (fun _ h => by cases h)
          go_simp
          exact hK _ _ _ hI (Step.refl hI) rfl
        · intro vs g w2 hI hF hR K hK
          simp only [Facts, fill, Act.put, z1, z2, z3, z4, z5, Nat.reduceAdd] at hF hR hK ⊢
          obtain ⟨r26, -⟩ := hR
          generalize vs 26 = x26 at *
          subst r26
          have k0 := hI.cell Cc_R2_0.out (fun _ h => by cases h)
          have k1 := hI.cell Cc_R2_1.out (fun _ h => by cases h)
          go_simp
          exact hK _ _ _ hI (Step.refl hI) rfl
        · intro vs g w2 hI hF hR K hK
          simp only [Facts, fill, Act.put, z1, z2, z3, z4, z5, Nat.reduceAdd] at hF hR hK ⊢
          obtain ⟨r26, r27, r28, r29, -⟩ := hR
          generalize vs 26 = x26, vs 27 = x27, vs 28 = x28, vs 29 = x29 at *
          subst r26 r27 r28 r29
          go_simp
          refine (gOrientSign hI hw (by first | assumption | (unfold S; decide)) (by first | assumption | (unfold S; decide)) (by first | assumption | (unfold S; decide)) (by first | assumption | (unfold S; decide)) (by first | assumption | (unfold S; decide)) (by first | assumption | (unfold S; decide))).mono ?_
          rintro e w3 ⟨v3, rfl, hv, hb⟩
          exact hK _ _ _ (hI.call hb) (Step.call hI hb) hv
        · intro vs g w2 hI hF hR K hK
          simp only [Facts, fill, Act.put, z1, z2, z3, z4, z5, Nat.reduceAdd] at hF hR hK ⊢
          obtain ⟨r26, -⟩ := hR
          generalize vs 26 = x26 at *
          subst r26
          have k0 := hI.cell Ca_R2_0.out (fun _ h => by cases h)
          have k1 := hI.cell Ca_R2_1.out (fun _ h => by cases h)
          go_simp
          exact hK _ _ _ hI (Step.refl hI) rfl
        · intro vs g w2 hI hF hR K hK
          simp only [Facts, fill, Act.put, z1, z2, z3, z4, z5, Nat.reduceAdd] at hF hR hK ⊢
          obtain ⟨r26, -⟩ := hR
          generalize vs 26 = x26 at *
          subst r26
          have k0 := hI.cell Cc_R2_0.out (fun _ h => by cases h)
          have k1 := hI.cell Cc_R2_1.out (fun _ h => by cases h)
          go_simp
          exact hK _ _ _ hI (Step.refl hI) rfl
        · intro vs g w2 hI hF hR K hK
          simp only [Facts, fill, Act.put, z1, z2, z3, z4, z5, Nat.reduceAdd] at hF hR hK ⊢
          obtain ⟨r26, -⟩ := hR
          generalize vs 26 = x26 at *
          subst r26
          have k0 := hI.cell Cb_R2_0.out (fun _ h => by cases h)
          have k1 := hI.cell Cb_R2_1.out (fun _ h => by cases h)
          go_simp
          exact hK _ _ _ hI (Step.refl hI) rfl
        · intro vs g w2 hI hF hR K hK
          simp only [Facts, fill, Act.put, z1, z2, z3, z4, z5, Nat.reduceAdd] at hF hR hK ⊢
          obtain ⟨r26, r31, r32, r33, -⟩ := hR
          generalize vs 26 = x26, vs 31 = x31, vs 32 = x32, vs 33 = x33 at *
          subst r26 r31 r32 r33
          go_simp
          refine (gOrientSign hI hw (by first | assumption | (unfold S; decide)) (by first | assumption | (unfold S; decide)) (by first | assumption | (unfold S; decide)) (by first | assumption | (unfold S; decide)) (by first | assumption | (unfold S; decide)) (by first | assumption | (unfold S; decide))).mono ?_
          rintro e w3 ⟨v3, rfl, hv, hb⟩
          exact hK _ _ _ (hI.call hb) (Step.call hI hb) hv
        · intro vs g w2 hI hF hR K hK
          simp only [Facts, fill, Act.put, z1, z2, z3, z4, z5, Nat.reduceAdd] at hF hR hK ⊢
          obtain ⟨r26, r34, -⟩ := hR
          generalize vs 26 = x26, vs 34 = x34 at *
          subst r26
          have q := r34
          obtain ⟨s34, rfl, -⟩ := r34
          obtain ⟨he, hn⟩ := signR_neg q
          clear q
          go_simp
          exact hK _ _ _ hI (Step.refl hI) hn
        · intro vs g w2 hI hF hR K hK
          simp only [Facts, fill, Act.put, z1, z2, z3, z4, z5, Nat.reduceAdd] at hF hR hK ⊢
          obtain ⟨r26, r30, r35, -⟩ := hR
          generalize vs 26 = x26, vs 30 = x30, vs 35 = x35 at *
          subst r26
          have q30 := r30
          obtain ⟨s30, rfl, -⟩ := r30
          have q35 := r35
          obtain ⟨s35, rfl, -⟩ := r35
          have hz := sign_eq q30 q35 (by first | rfl | (unfold det; grind))
          clear q30
          clear q35
          go_simp
          exact hK _ _ _ hI (Step.refl hI) rfl
        · intro vs g w2 hI hF hR K hK
          simp only [Facts, fill, Act.put, z1, z2, z3, z4, z5, Nat.reduceAdd] at hF hR hK ⊢
          obtain ⟨r26, r36, -⟩ := hR
          generalize vs 26 = x26, vs 36 = x36 at *
          subst r26 r36
          go_simp
          exact hK _ _ _ hI (Step.refl hI) rfl
        · intro vs g w2 hI hF hR K hK
          simp only [Facts, fill, Act.put, z1, z2, z3, z4, z5, Nat.reduceAdd] at hF hR hK ⊢
          obtain ⟨r37, -⟩ := hR
          generalize vs 37 = x37 at *
          subst r37
          go_simp
          exact hK _ _ _ hI (Step.refl hI) rfl
      case fin =>
        intro vs g wR4 hI hR
        have r38 := hR 38 (by decide)
        simp only [fill, Act.put, z1, z2, z3, z4, z5] at r38 ⊢
        clear hR
        generalize vs 38 = x38 at *
        have Ca_R4_0 := Lib.hid (hI.cell Ca_R2_0.out (fun _ h => by cases h))
        have Ca_R4_1 := Lib.hid (hI.cell Ca_R2_1.out (fun _ h => by cases h))
        have Cb_R4_0 := Lib.hid (hI.cell Cb_R2_0.out (fun _ h => by cases h))
        have Cb_R4_1 := Lib.hid (hI.cell Cb_R2_1.out (fun _ h => by cases h))
        have Cc_R4_0 := Lib.hid (hI.cell Cc_R2_0.out (fun _ h => by cases h))
        have Cc_R4_1 := Lib.hid (hI.cell Cc_R2_1.out (fun _ h => by cases h))
        have FR17_R4_0 := Lib.hid ((limR_firm _ _) _ _ _ _ _ FR17_R2_0.out hI.carry)
        have FR18_R4_0 := Lib.hid ((limR_firm _ _) _ _ _ _ _ FR18_R2_0.out hI.carry)
        subst r38
        have hBR4 := hI.below
        have HCR4 := hI.next HCR2
        clear hI
        go_wp2
        go_ret
        exact ⟨rfl, hBR4⟩
end Go.Proofs.YthnhabfnjjbfaaaDoor
