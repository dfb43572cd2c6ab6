/-
  The examples of layer 5. (Written by law5.py.)
-/
import Derived.Test.YtdcckjpeibnkbaaDoorGen5
namespace Go.Proofs.YtdcckjpeibnkbaaDoor
open Go.RowKit
set_option linter.unusedSimpArgs false
set_option linter.unusedVariables false

set_option maxRecDepth 100000 in
set_option maxHeartbeats 4000000 in
theorem alive5_any (w : World) (hw : Wts w) :
    Calls Tryd.prog 11 #[] w fun e w' => e = .returned (.bool true) ∧ Below w.heap.size w w' := by
  obtain ⟨W, hW⟩ : ∃ W, W = w.alloc (.cells #[.int .i64 0, .int .i64 0] 23) := ⟨_, rfl⟩
  have hb0 : Below w.heap.size w W := by rw [hW]; exact ((Below.refl _ _).alloc (Nat.le_refl _) _)
  have Co_W_0 := Lib.hid (show W.cell? ⟨w.heap.size, 0, none⟩ = some (.int .i64 0) by rw [hW]; simp [go_sem])
  have Co_W_1 := Lib.hid (show W.cell? ⟨w.heap.size, 1, none⟩ = some (.int .i64 0) by rw [hW]; simp [go_sem])
  have HW := Lib.hid hW
  clear hW
  go_enter Tryd.func11, Tryd.ntmps11
  go_upto_region 2 with (fail)
  rw [← HW.out]
  refine box_plan (c := ⟨w, W, (fun _ => none)⟩) (Ctx.ok_none hb0) (by kernel_rfl) [[], [], [(5, 0), (6, 1)], [], [], [(8, 3), (9, 4)], [], [], [(2, 6), (7, 2)], [(3, 7), (10, 5)]] [(5, 0), (6, 1), (7, 2), (8, 3), (9, 4), (10, 5), (2, 6), (3, 7)] [
      (fun v _ _ => v = .agg #[.int .i64 0, .int .i64 0]),
      (fun v _ _ => v = .agg #[.int .i64 1, .int .i64 0]),
      VecL (1 - 0) (0 - 0),
      (fun v _ _ => v = .agg #[.int .i64 0, .int .i64 0]),
      (fun v _ _ => v = .agg #[.int .i64 0, .int .i64 1]),
      VecL (0 - 0) (1 - 0),
      PtrR 6 2,
      PtrR 7 2,
      (fun _ g w => BoxR 6 (VecL (1 - 0) (0 - 0)) g w),
      (fun _ g w => BoxR 7 (VecL (0 - 0) (1 - 0)) g w)
    ] (fun i => match i with | 6 => some 8 | 7 => some 9 | _ => none) (by kernel_rfl) (by kernel_rfl) ⟨stab_eq, stab_eq, stab_firm (vecL_firm _ _), stab_eq, stab_eq, stab_firm (vecL_firm _ _), stab_ptr, stab_ptr, stab_box (vecL_firm _ _) rfl, stab_box (vecL_firm _ _) rfl, trivial⟩ ?steps ?fin
  case steps =>
    refine ⟨?_, ?_, ?_, ?_, ?_, ?_, ?_, ?_, ?_, ?_, trivial⟩
    · intro vs g w2 hI hF hR K hK
      simp only [Facts, fill, Act.put, z1, z2, z3, z4, z5, Nat.reduceAdd] at hF hR hK ⊢
      have k0 := hI.cell Co_W_0.out (fun _ h => by cases h)
      have k1 := hI.cell Co_W_1.out (fun _ h => by cases h)
      go_simp
      exact hK _ _ _ hI (Step.refl hI) rfl
    · intro vs g w2 hI hF hR K hK
      simp only [Facts, fill, Act.put, z1, z2, z3, z4, z5, Nat.reduceAdd] at hF hR hK ⊢
      go_simp
      exact hK _ _ _ hI (Step.refl hI) rfl
    · intro vs g w2 hI hF hR K hK
      simp only [Facts, fill, Act.put, z1, z2, z3, z4, z5, Nat.reduceAdd] at hF hR hK ⊢
      obtain ⟨r0, r1, -⟩ := hR
      generalize vs 0 = x0, vs 1 = x1 at *
      subst r0 r1
      go_simp
      refine (gBetween hI hw (by first | assumption | (unfold S; decide)) (by first | assumption | (unfold S; decide)) (by first | assumption | (unfold S; decide)) (by first | assumption | (unfold S; decide))).mono ?_
      rintro e w3 ⟨v3, rfl, hv, hb⟩
      exact hK _ _ _ (hI.call hb) (Step.call hI hb) hv
    · intro vs g w2 hI hF hR K hK
      simp only [Facts, fill, Act.put, z1, z2, z3, z4, z5, Nat.reduceAdd] at hF hR hK ⊢
      have k0 := hI.cell Co_W_0.out (fun _ h => by cases h)
      have k1 := hI.cell Co_W_1.out (fun _ h => by cases h)
      go_simp
      exact hK _ _ _ hI (Step.refl hI) rfl
    · intro vs g w2 hI hF hR K hK
      simp only [Facts, fill, Act.put, z1, z2, z3, z4, z5, Nat.reduceAdd] at hF hR hK ⊢
      go_simp
      exact hK _ _ _ hI (Step.refl hI) rfl
    · intro vs g w2 hI hF hR K hK
      simp only [Facts, fill, Act.put, z1, z2, z3, z4, z5, Nat.reduceAdd] at hF hR hK ⊢
      obtain ⟨r3, r4, -⟩ := hR
      generalize vs 3 = x3, vs 4 = x4 at *
      subst r3 r4
      go_simp
      refine (gBetween hI hw (by first | assumption | (unfold S; decide)) (by first | assumption | (unfold S; decide)) (by first | assumption | (unfold S; decide)) (by first | assumption | (unfold S; decide))).mono ?_
      rintro e w3 ⟨v3, rfl, hv, hb⟩
      exact hK _ _ _ (hI.call hb) (Step.call hI hb) hv
    · intro vs g w2 hI hF hR K hK
      simp only [Facts, fill, Act.put, z1, z2, z3, z4, z5, Nat.reduceAdd] at hF hR hK ⊢
      go_simp
      exact hK _ _ _ (hI.alloc _ (hF (by decide)) _) (Step.alloc hI (hF (by decide)) _) ⟨_, rfl, more_at _ _ _, box2' _ _ _ _⟩
    · intro vs g w2 hI hF hR K hK
      simp only [Facts, fill, Act.put, z1, z2, z3, z4, z5, Nat.reduceAdd] at hF hR hK ⊢
      go_simp
      exact hK _ _ _ (hI.alloc _ (hF (by decide)) _) (Step.alloc hI (hF (by decide)) _) ⟨_, rfl, more_at _ _ _, box2' _ _ _ _⟩
    · intro vs g w2 hI hF hR K hK
      simp only [Facts, fill, Act.put, z1, z2, z3, z4, z5, Nat.reduceAdd] at hF hR hK ⊢
      obtain ⟨r6, r2, -⟩ := hR
      generalize vs 6 = x6, vs 2 = x2 at *
      obtain ⟨k, rfl, hk, hbx⟩ := r6
      have qx := r2
      obtain ⟨A8, c8, B8, d8, rfl⟩ := vecL_open r2
      obtain ⟨⟨u0, k0⟩, f0⟩ := hbx 0 (by decide)
      obtain ⟨⟨u1, k1⟩, f1⟩ := hbx 1 (by decide)
      go_simp
      have ht := (((Touch.refl w2 k).set 0 (.slice A8 2 c8)).set 1 (.slice B8 2 d8))
      exact hK undef _ _ (hI.store (by decide) hk ht) (Step.store hI rfl hk ht) ⟨k, .agg #[.slice A8 2 c8, .slice B8 2 d8], hk, by rw [ht.size]; exact hI.lt _ _ hk, cells2 k0 k1 (.slice A8 2 c8) (.slice B8 2 d8), ((vecL_firm _ _) _ _ _ _ _ qx (ht.keeps hk))⟩
    · intro vs g w2 hI hF hR K hK
      simp only [Facts, fill, Act.put, z1, z2, z3, z4, z5, Nat.reduceAdd] at hF hR hK ⊢
      obtain ⟨r7, r5, -⟩ := hR
      generalize vs 7 = x7, vs 5 = x5 at *
      obtain ⟨k, rfl, hk, hbx⟩ := r7
      have qx := r5
      obtain ⟨A9, c9, B9, d9, rfl⟩ := vecL_open r5
      obtain ⟨⟨u0, k0⟩, f0⟩ := hbx 0 (by decide)
      obtain ⟨⟨u1, k1⟩, f1⟩ := hbx 1 (by decide)
      go_simp
      have ht := (((Touch.refl w2 k).set 0 (.slice A9 2 c9)).set 1 (.slice B9 2 d9))
      exact hK undef _ _ (hI.store (by decide) hk ht) (Step.store hI rfl hk ht) ⟨k, .agg #[.slice A9 2 c9, .slice B9 2 d9], hk, by rw [ht.size]; exact hI.lt _ _ hk, cells2 k0 k1 (.slice A9 2 c9) (.slice B9 2 d9), ((vecL_firm _ _) _ _ _ _ _ qx (ht.keeps hk))⟩
  case fin =>
    intro vs g wR2 hI hR
    have r6 := hR 6 (by decide)
    have r7 := hR 7 (by decide)
    have r8 := hR 8 (by decide)
    have r9 := hR 9 (by decide)
    simp only [fill, Act.put, z1, z2, z3, z4, z5] at r6 r7 r8 r9 ⊢
    clear hR
    generalize vs 6 = x6 at *
    generalize vs 7 = x7 at *
    generalize vs 8 = x8 at *
    generalize vs 9 = x9 at *
    have Co_R2_0 := Lib.hid (hI.cell Co_W_0.out (fun _ h => by cases h))
    have Co_R2_1 := Lib.hid (hI.cell Co_W_1.out (fun _ h => by cases h))
    obtain ⟨pR22, rfl, hkR22, -⟩ := r6
    obtain ⟨qR22, uR22, hqR22, -, hcR22, hrR22⟩ := r8
    rw [hkR22] at hqR22
    injection hqR22 with hqR22
    subst hqR22
    have qfR22 := hrR22
    obtain ⟨AvR22, cvR22, BvR22, dvR22, rfl⟩ := vecL_open hrR22
    have FR22_R2_0 := Lib.hid ((vecL_firm _ _) _ _ _ _ _ qfR22 hI.back)
    clear qfR22
    have FR22_R2_1 := Lib.hid (vecL_x FR22_R2_0.out)
    have FR22_R2_2 := Lib.hid (vecL_y FR22_R2_0.out)
    have CR22_R2_0 := Lib.hid (hcR22 0 _ rfl)
    have CR22_R2_1 := Lib.hid (hcR22 1 _ rfl)
    clear hcR22 hkR22
    obtain ⟨pR23, rfl, hkR23, -⟩ := r7
    obtain ⟨qR23, uR23, hqR23, -, hcR23, hrR23⟩ := r9
    rw [hkR23] at hqR23
    injection hqR23 with hqR23
    subst hqR23
    have qfR23 := hrR23
    obtain ⟨AvR23, cvR23, BvR23, dvR23, rfl⟩ := vecL_open hrR23
    have FR23_R2_0 := Lib.hid ((vecL_firm _ _) _ _ _ _ _ qfR23 hI.back)
    clear qfR23
    have FR23_R2_1 := Lib.hid (vecL_x FR23_R2_0.out)
    have FR23_R2_2 := Lib.hid (vecL_y FR23_R2_0.out)
    have CR23_R2_0 := Lib.hid (hcR23 0 _ rfl)
    have CR23_R2_1 := Lib.hid (hcR23 1 _ rfl)
    clear hcR23 hkR23
    have hBR2 := hI.below
    have HCR2 := hI.next (Ctx.ok_none hb0)
    clear hI
    go_upto_region 3 with (fail)
    refine box_plan (c := ⟨w, wR2, (fun _ => none)⟩) HCR2 (by kernel_rfl) [[], [], [(11, 0), (12, 1)], [(13, 2)], [(14, 3)], [(14, 3)], [(14, 3), (15, 4), (16, 5)], [(14, 3)], [(14, 3), (17, 6), (18, 7)], [(14, 3), (19, 8)], [(20, 9)], [(21, 10)], [(21, 10)], [(21, 10), (22, 11), (23, 12)], [(21, 10)], [(21, 10), (24, 13), (25, 14)], [(21, 10), (26, 15)], [(27, 16)], [(28, 17)], [(28, 17), (29, 18)], [(28, 17), (30, 19)], [(28, 17)], [(28, 17), (31, 20), (32, 21)], [(28, 17), (33, 22)], [(34, 23)]] [(11, 0), (12, 1), (13, 2), (14, 3), (15, 4), (16, 5), (17, 6), (18, 7), (19, 8), (20, 9), (21, 10), (22, 11), (23, 12), (24, 13), (25, 14), (26, 15), (27, 16), (28, 17), (29, 18), (30, 19), (31, 20), (32, 21), (33, 22), (34, 23), (0, 24)] [
        LimR 2 ((-9223372036854775808) - 9223372036854775807),
        LimR 2 340282366920938463444927863358058659841,
        (fun v _ _ => v = .bool true),
        (fun v _ _ => v = .bool true),
        (fun v _ _ => v = .agg #[.slice AvR22 2 cvR22, .slice BvR22 2 dvR22]),
        (fun v _ _ => v = .agg #[.slice AvR23 2 cvR23, .slice BvR23 2 dvR23]),
        LimR 4 ((1 - 0) * (1 - 0) - (0 - 0) * (0 - 0)),
        LimR 4 1,
        (fun v _ _ => v = .bool true),
        (fun v _ _ => v = .bool true),
        (fun v _ _ => v = .bool true),
        (fun v _ _ => v = .agg #[.slice AvR22 2 cvR22, .slice BvR22 2 dvR22]),
        (fun v _ _ => v = .agg #[.slice AvR23 2 cvR23, .slice BvR23 2 dvR23]),
        LimR 4 ((1 - 0) * (0 - 0) + (0 - 0) * (1 - 0)),
        LimR 4 0,
        (fun v _ _ => v = .bool true),
        (fun v _ _ => v = .bool true),
        (fun v _ _ => v = .bool true),
        (fun v _ _ => v = .agg #[.slice AvR22 2 cvR22, .slice BvR22 2 dvR22]),
        VecL (-(1 - 0)) (-(0 - 0)),
        LimR 4 ((-(1 - 0)) * (-(1 - 0)) + (-(0 - 0)) * (-(0 - 0))),
        LimR 4 1,
        (fun v _ _ => v = .bool true),
        (fun v _ _ => v = .bool true),
        (fun v _ _ => v = .bool true)
      ] (fun _ => none) (by kernel_rfl) (by kernel_rfl) ⟨stab_firm (limR_firm _ _), stab_firm (limR_firm _ _), stab_eq, stab_eq, stab_eq, stab_eq, stab_firm (limR_firm _ _), stab_firm (limR_firm _ _), stab_eq, stab_eq, stab_eq, stab_eq, stab_eq, stab_firm (limR_firm _ _), stab_firm (limR_firm _ _), stab_eq, stab_eq, stab_eq, stab_eq, stab_firm (vecL_firm _ _), stab_firm (limR_firm _ _), stab_firm (limR_firm _ _), stab_eq, stab_eq, stab_eq, trivial⟩ ?steps ?fin
    case steps =>
      refine ⟨?_, ?_, ?_, ?_, ?_, ?_, ?_, ?_, ?_, ?_, ?_, ?_, ?_, ?_, ?_, ?_, ?_, ?_, ?_, ?_, ?_, ?_, ?_, ?_, ?_, trivial⟩
      · intro vs g w2 hI hF hR K hK
        simp only [Facts, fill, Act.put, z1, z2, z3, z4, z5, Nat.reduceAdd] at hF hR hK ⊢
        go_simp
        refine (gCoord hI hw (by first | assumption | (unfold S; decide)) (by first | assumption | (unfold S; decide))).mono ?_
        rintro e w3 ⟨v3, rfl, hv, hb⟩
        exact hK _ _ _ (hI.call hb) (Step.call hI hb) hv
      · intro vs g w2 hI hF hR K hK
        simp only [Facts, fill, Act.put, z1, z2, z3, z4, z5, Nat.reduceAdd] at hF hR hK ⊢
        go_simp
        have hb : Below w2.heap.size w2 (w2.alloc (.cells #[.int .u64 1, .int .u64 18446744073709551615] 54)) := (Below.refl _ _).alloc (Nat.le_refl _) _
        exact hK _ _ _ (hI.call hb) (Step.call hI hb) (lit_lim hI [1, 18446744073709551615] 340282366920938463444927863358058659841 (by decide +kernel))
      · intro vs g w2 hI hF hR K hK
        simp only [Facts, fill, Act.put, z1, z2, z3, z4, z5, Nat.reduceAdd] at hF hR hK ⊢
        obtain ⟨r0, r1, -⟩ := hR
        generalize vs 0 = x0, vs 1 = x1 at *
        go_simp
        refine (gSame r0 r1 (by decide) (by first | rfl | decide +kernel | (congr 1; grind))).mono ?_
        rintro e w3 ⟨v3, rfl, hv, hb⟩
        exact hK _ _ _ (hI.call hb) (Step.call hI hb) hv
      · intro vs g w2 hI hF hR K hK
        simp only [Facts, fill, Act.put, z1, z2, z3, z4, z5, Nat.reduceAdd] at hF hR hK ⊢
        obtain ⟨r2, -⟩ := hR
        generalize vs 2 = x2 at *
        subst r2
        go_simp
        exact hK _ _ _ hI (Step.refl hI) rfl
      · intro vs g w2 hI hF hR K hK
        simp only [Facts, fill, Act.put, z1, z2, z3, z4, z5, Nat.reduceAdd] at hF hR hK ⊢
        obtain ⟨r3, -⟩ := hR
        generalize vs 3 = x3 at *
        subst r3
        have k0 := hI.cell CR22_R2_0.out (fun _ h => by cases h)
        have k1 := hI.cell CR22_R2_1.out (fun _ h => by cases h)
        go_simp
        exact hK _ _ _ hI (Step.refl hI) rfl
      · intro vs g w2 hI hF hR K hK
        simp only [Facts, fill, Act.put, z1, z2, z3, z4, z5, Nat.reduceAdd] at hF hR hK ⊢
        obtain ⟨r3, -⟩ := hR
        generalize vs 3 = x3 at *
        subst r3
        have k0 := hI.cell CR23_R2_0.out (fun _ h => by cases h)
        have k1 := hI.cell CR23_R2_1.out (fun _ h => by cases h)
        go_simp
        exact hK _ _ _ hI (Step.refl hI) rfl
      · intro vs g w2 hI hF hR K hK
        simp only [Facts, fill, Act.put, z1, z2, z3, z4, z5, Nat.reduceAdd] at hF hR hK ⊢
        obtain ⟨r3, r4, r5, -⟩ := hR
        generalize vs 3 = x3, vs 4 = x4, vs 5 = x5 at *
        subst r3 r4 r5
        go_simp
        refine (gCross hI hw ((vecL_firm _ _) _ _ _ _ _ FR22_R2_0.out hI.keeps) ((vecL_firm _ _) _ _ _ _ _ FR23_R2_0.out hI.keeps) (by first | exact HE0.out | exact HE1.out | exact HE2.out | exact HE3.out | exact Fit.sv (by repeat first | exact S.diff (by first | assumption | (unfold S; decide)) (by first | assumption | (unfold S; decide)) | apply Fit.neg | (unfold Fit; decide +kernel))) (by first | exact HE0.out | exact HE1.out | exact HE2.out | exact HE3.out | exact Fit.sv (by repeat first | exact S.diff (by first | assumption | (unfold S; decide)) (by first | assumption | (unfold S; decide)) | apply Fit.neg | (unfold Fit; decide +kernel))) (by first | exact HE0.out | exact HE1.out | exact HE2.out | exact HE3.out | exact Fit.sv (by repeat first | exact S.diff (by first | assumption | (unfold S; decide)) (by first | assumption | (unfold S; decide)) | apply Fit.neg | (unfold Fit; decide +kernel))) (by first | exact HE0.out | exact HE1.out | exact HE2.out | exact HE3.out | exact Fit.sv (by repeat first | exact S.diff (by first | assumption | (unfold S; decide)) (by first | assumption | (unfold S; decide)) | apply Fit.neg | (unfold Fit; decide +kernel)))).mono ?_
        rintro e w3 ⟨v3, rfl, hv, hb⟩
        exact hK _ _ _ (hI.call hb) (Step.call hI hb) hv
      · intro vs g w2 hI hF hR K hK
        simp only [Facts, fill, Act.put, z1, z2, z3, z4, z5, Nat.reduceAdd] at hF hR hK ⊢
        obtain ⟨r3, -⟩ := hR
        generalize vs 3 = x3 at *
        subst r3
        go_simp
        have hb : Below w2.heap.size w2 (w2.alloc (.cells #[.int .u64 1, .int .u64 0, .int .u64 0, .int .u64 0] 54)) := (Below.refl _ _).alloc (Nat.le_refl _) _
        exact hK _ _ _ (hI.call hb) (Step.call hI hb) (lit_lim hI [1, 0, 0, 0] 1 (by decide +kernel))
      · intro vs g w2 hI hF hR K hK
        simp only [Facts, fill, Act.put, z1, z2, z3, z4, z5, Nat.reduceAdd] at hF hR hK ⊢
        obtain ⟨r3, r6, r7, -⟩ := hR
        generalize vs 3 = x3, vs 6 = x6, vs 7 = x7 at *
        subst r3
        go_simp
        refine (gSame r6 r7 (by decide) (by first | rfl | decide +kernel | (congr 1; grind))).mono ?_
        rintro e w3 ⟨v3, rfl, hv, hb⟩
        exact hK _ _ _ (hI.call hb) (Step.call hI hb) hv
      · intro vs g w2 hI hF hR K hK
        simp only [Facts, fill, Act.put, z1, z2, z3, z4, z5, Nat.reduceAdd] at hF hR hK ⊢
        obtain ⟨r3, r8, -⟩ := hR
        generalize vs 3 = x3, vs 8 = x8 at *
        subst r3 r8
        go_simp
        exact hK _ _ _ hI (Step.refl hI) rfl
      · intro vs g w2 hI hF hR K hK
        simp only [Facts, fill, Act.put, z1, z2, z3, z4, z5, Nat.reduceAdd] at hF hR hK ⊢
        obtain ⟨r9, -⟩ := hR
        generalize vs 9 = x9 at *
        subst r9
        go_simp
        exact hK _ _ _ hI (Step.refl hI) rfl
      · intro vs g w2 hI hF hR K hK
        simp only [Facts, fill, Act.put, z1, z2, z3, z4, z5, Nat.reduceAdd] at hF hR hK ⊢
        obtain ⟨r10, -⟩ := hR
        generalize vs 10 = x10 at *
        subst r10
        have k0 := hI.cell CR22_R2_0.out (fun _ h => by cases h)
        have k1 := hI.cell CR22_R2_1.out (fun _ h => by cases h)
        go_simp
        exact hK _ _ _ hI (Step.refl hI) rfl
      · intro vs g w2 hI hF hR K hK
        simp only [Facts, fill, Act.put, z1, z2, z3, z4, z5, Nat.reduceAdd] at hF hR hK ⊢
        obtain ⟨r10, -⟩ := hR
        generalize vs 10 = x10 at *
        subst r10
        have k0 := hI.cell CR23_R2_0.out (fun _ h => by cases h)
        have k1 := hI.cell CR23_R2_1.out (fun _ h => by cases h)
        go_simp
        exact hK _ _ _ hI (Step.refl hI) rfl
      · intro vs g w2 hI hF hR K hK
        simp only [Facts, fill, Act.put, z1, z2, z3, z4, z5, Nat.reduceAdd] at hF hR hK ⊢
        obtain ⟨r10, r11, r12, -⟩ := hR
        generalize vs 10 = x10, vs 11 = x11, vs 12 = x12 at *
        subst r10 r11 r12
        go_simp
        refine (gDot hI hw ((vecL_firm _ _) _ _ _ _ _ FR22_R2_0.out hI.keeps) ((vecL_firm _ _) _ _ _ _ _ FR23_R2_0.out hI.keeps) (by first | exact HE0.out | exact HE1.out | exact HE2.out | exact HE3.out | exact Fit.sv (by repeat first | exact S.diff (by first | assumption | (unfold S; decide)) (by first | assumption | (unfold S; decide)) | apply Fit.neg | (unfold Fit; decide +kernel))) (by first | exact HE0.out | exact HE1.out | exact HE2.out | exact HE3.out | exact Fit.sv (by repeat first | exact S.diff (by first | assumption | (unfold S; decide)) (by first | assumption | (unfold S; decide)) | apply Fit.neg | (unfold Fit; decide +kernel))) (by first | exact HE0.out | exact HE1.out | exact HE2.out | exact HE3.out | exact Fit.sv (by repeat first | exact S.diff (by first | assumption | (unfold S; decide)) (by first | assumption | (unfold S; decide)) | apply Fit.neg | (unfold Fit; decide +kernel))) (by first | exact HE0.out | exact HE1.out | exact HE2.out | exact HE3.out | exact Fit.sv (by repeat first | exact S.diff (by first | assumption | (unfold S; decide)) (by first | assumption | (unfold S; decide)) | apply Fit.neg | (unfold Fit; decide +kernel)))).mono ?_
        rintro e w3 ⟨v3, rfl, hv, hb⟩
        exact hK _ _ _ (hI.call hb) (Step.call hI hb) hv
      · intro vs g w2 hI hF hR K hK
        simp only [Facts, fill, Act.put, z1, z2, z3, z4, z5, Nat.reduceAdd] at hF hR hK ⊢
        obtain ⟨r10, -⟩ := hR
        generalize vs 10 = x10 at *
        subst r10
        have hmk := run_make_row' (P := Tryd.prog) 24 54 (.int .u64 0) 8 Tryd.underlying24 infoU rfl .i64 .i64 4 (by omega) (by omega)
        go_simp
        have hb : Below w2.heap.size w2 (w2.alloc (.cells (madeCells #[.int .u64 0] 4) 54)) := (Below.refl _ _).alloc (Nat.le_refl _) _
        exact hK _ _ _ (hI.call hb) (Step.call hI hb) (made_lim hI 4 (by decide))
      · intro vs g w2 hI hF hR K hK
        simp only [Facts, fill, Act.put, z1, z2, z3, z4, z5, Nat.reduceAdd] at hF hR hK ⊢
        obtain ⟨r10, r13, r14, -⟩ := hR
        generalize vs 10 = x10, vs 13 = x13, vs 14 = x14 at *
        subst r10
        go_simp
        refine (gSame r13 r14 (by decide) (by first | rfl | decide +kernel | (congr 1; grind))).mono ?_
        rintro e w3 ⟨v3, rfl, hv, hb⟩
        exact hK _ _ _ (hI.call hb) (Step.call hI hb) hv
      · intro vs g w2 hI hF hR K hK
        simp only [Facts, fill, Act.put, z1, z2, z3, z4, z5, Nat.reduceAdd] at hF hR hK ⊢
        obtain ⟨r10, r15, -⟩ := hR
        generalize vs 10 = x10, vs 15 = x15 at *
        subst r10 r15
        go_simp
        exact hK _ _ _ hI (Step.refl hI) rfl
      · intro vs g w2 hI hF hR K hK
        simp only [Facts, fill, Act.put, z1, z2, z3, z4, z5, Nat.reduceAdd] at hF hR hK ⊢
        obtain ⟨r16, -⟩ := hR
        generalize vs 16 = x16 at *
        subst r16
        go_simp
        exact hK _ _ _ hI (Step.refl hI) rfl
      · intro vs g w2 hI hF hR K hK
        simp only [Facts, fill, Act.put, z1, z2, z3, z4, z5, Nat.reduceAdd] at hF hR hK ⊢
        obtain ⟨r17, -⟩ := hR
        generalize vs 17 = x17 at *
        subst r17
        have k0 := hI.cell CR22_R2_0.out (fun _ h => by cases h)
        have k1 := hI.cell CR22_R2_1.out (fun _ h => by cases h)
        go_simp
        exact hK _ _ _ hI (Step.refl hI) rfl
      · intro vs g w2 hI hF hR K hK
        simp only [Facts, fill, Act.put, z1, z2, z3, z4, z5, Nat.reduceAdd] at hF hR hK ⊢
        obtain ⟨r17, r18, -⟩ := hR
        generalize vs 17 = x17, vs 18 = x18 at *
        subst r17 r18
        go_simp
        refine (gVNeg hI hw ((vecL_firm _ _) _ _ _ _ _ FR22_R2_0.out hI.keeps) (by first | exact HE0.out | exact HE1.out | exact HE2.out | exact HE3.out | exact Fit.sv (by repeat first | exact S.diff (by first | assumption | (unfold S; decide)) (by first | assumption | (unfold S; decide)) | apply Fit.neg | (unfold Fit; decide +kernel))) (by first | exact HE0.out | exact HE1.out | exact HE2.out | exact HE3.out | exact Fit.sv (by repeat first | exact S.diff (by first | assumption | (unfold S; decide)) (by first | assumption | (unfold S; decide)) | apply Fit.neg | (unfold Fit; decide +kernel)))).mono ?_
        rintro e w3 ⟨v3, rfl, hv, hb⟩
        exact hK _ _ _ (hI.call hb) (Step.call hI hb) hv
      · intro vs g w2 hI hF hR K hK
        simp only [Facts, fill, Act.put, z1, z2, z3, z4, z5, Nat.reduceAdd] at hF hR hK ⊢
        obtain ⟨r17, r19, -⟩ := hR
        generalize vs 17 = x17, vs 19 = x19 at *
        subst r17
        go_simp
        refine (gNorm hI hw r19 (by first | exact HE0.out | exact HE1.out | exact HE2.out | exact HE3.out | exact Fit.sv (by repeat first | exact S.diff (by first | assumption | (unfold S; decide)) (by first | assumption | (unfold S; decide)) | apply Fit.neg | (unfold Fit; decide +kernel))) (by first | exact HE0.out | exact HE1.out | exact HE2.out | exact HE3.out | exact Fit.sv (by repeat first | exact S.diff (by first | assumption | (unfold S; decide)) (by first | assumption | (unfold S; decide)) | apply Fit.neg | (unfold Fit; decide +kernel)))).mono ?_
        rintro e w3 ⟨v3, rfl, hv, hb⟩
        exact hK _ _ _ (hI.call hb) (Step.call hI hb) hv
      · intro vs g w2 hI hF hR K hK
        simp only [Facts, fill, Act.put, z1, z2, z3, z4, z5, Nat.reduceAdd] at hF hR hK ⊢
        obtain ⟨r17, -⟩ := hR
        generalize vs 17 = x17 at *
        subst r17
        go_simp
        have hb : Below w2.heap.size w2 (w2.alloc (.cells #[.int .u64 1, .int .u64 0, .int .u64 0, .int .u64 0] 54)) := (Below.refl _ _).alloc (Nat.le_refl _) _
        exact hK _ _ _ (hI.call hb) (Step.call hI hb) (lit_lim hI [1, 0, 0, 0] 1 (by decide +kernel))
      · intro vs g w2 hI hF hR K hK
        simp only [Facts, fill, Act.put, z1, z2, z3, z4, z5, Nat.reduceAdd] at hF hR hK ⊢
        obtain ⟨r17, r20, r21, -⟩ := hR
        generalize vs 17 = x17, vs 20 = x20, vs 21 = x21 at *
        subst r17
        go_simp
        refine (gSame r20 r21 (by decide) (by first | rfl | decide +kernel | (congr 1; grind))).mono ?_
        rintro e w3 ⟨v3, rfl, hv, hb⟩
        exact hK _ _ _ (hI.call hb) (Step.call hI hb) hv
      · intro vs g w2 hI hF hR K hK
        simp only [Facts, fill, Act.put, z1, z2, z3, z4, z5, Nat.reduceAdd] at hF hR hK ⊢
        obtain ⟨r17, r22, -⟩ := hR
        generalize vs 17 = x17, vs 22 = x22 at *
        subst r17 r22
        go_simp
        exact hK _ _ _ hI (Step.refl hI) rfl
      · intro vs g w2 hI hF hR K hK
        simp only [Facts, fill, Act.put, z1, z2, z3, z4, z5, Nat.reduceAdd] at hF hR hK ⊢
        obtain ⟨r23, -⟩ := hR
        generalize vs 23 = x23 at *
        subst r23
        go_simp
        exact hK _ _ _ hI (Step.refl hI) rfl
    case fin =>
      intro vs g wR3 hI hR
      have r24 := hR 24 (by decide)
      simp only [fill, Act.put, z1, z2, z3, z4, z5] at r24 ⊢
      clear hR
      generalize vs 24 = x24 at *
      have Co_R3_0 := Lib.hid (hI.cell Co_R2_0.out (fun _ h => by cases h))
      have Co_R3_1 := Lib.hid (hI.cell Co_R2_1.out (fun _ h => by cases h))
      have CR22_R3_0 := Lib.hid (hI.cell CR22_R2_0.out (fun _ h => by cases h))
      have CR22_R3_1 := Lib.hid (hI.cell CR22_R2_1.out (fun _ h => by cases h))
      have FR22_R3_0 := Lib.hid ((vecL_firm _ _) _ _ _ _ _ FR22_R2_0.out hI.carry)
      have FR22_R3_1 := Lib.hid ((limR_firm _ _) _ _ _ _ _ FR22_R2_1.out hI.carry)
      have FR22_R3_2 := Lib.hid ((limR_firm _ _) _ _ _ _ _ FR22_R2_2.out hI.carry)
      have CR23_R3_0 := Lib.hid (hI.cell CR23_R2_0.out (fun _ h => by cases h))
      have CR23_R3_1 := Lib.hid (hI.cell CR23_R2_1.out (fun _ h => by cases h))
      have FR23_R3_0 := Lib.hid ((vecL_firm _ _) _ _ _ _ _ FR23_R2_0.out hI.carry)
      have FR23_R3_1 := Lib.hid ((limR_firm _ _) _ _ _ _ _ FR23_R2_1.out hI.carry)
      have FR23_R3_2 := Lib.hid ((limR_firm _ _) _ _ _ _ _ FR23_R2_2.out hI.carry)
      subst r24
      have hBR3 := hI.below
      have HCR3 := hI.next HCR2
      clear hI
      go_wp2
      go_ret
      exact ⟨rfl, hBR3⟩
end Go.Proofs.YtdcckjpeibnkbaaDoor
