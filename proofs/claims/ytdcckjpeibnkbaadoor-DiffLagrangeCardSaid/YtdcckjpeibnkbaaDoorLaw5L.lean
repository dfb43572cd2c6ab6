/-
  Law DiffLagrange. (Written by law5.py.)
-/
import Derived.Test.YtdcckjpeibnkbaaDoorGen5b
namespace Go.Proofs.YtdcckjpeibnkbaaDoor
open Go.RowKit
set_option linter.unusedSimpArgs false
set_option linter.unusedVariables false

set_option maxRecDepth 100000 in
set_option maxHeartbeats 4000000 in
theorem law_diffLagrange (xa ya xb yb xc yc : Int) (w : World) (hw : Wts w) (sxa : S xa) (sya : S ya) (sxb : S xb) (syb : S yb) (sxc : S xc) (syc : S yc) :
    Calls Tryd.prog 7 #[.agg #[.int .i64 xa, .int .i64 ya], .agg #[.int .i64 xb, .int .i64 yb], .agg #[.int .i64 xc, .int .i64 yc]] w fun e w' => e = .returned (.bool true) ∧ Below w.heap.size w w' := by
  obtain ⟨W, hW⟩ : ∃ W, W = ((w.alloc (.cells #[.int .i64 xa, .int .i64 ya] 23)).alloc (.cells #[.int .i64 xb, .int .i64 yb] 23)).alloc (.cells #[.int .i64 xc, .int .i64 yc] 23) := ⟨_, rfl⟩
  have hb0 : Below w.heap.size w W := by rw [hW]; exact ((((Below.refl _ _).alloc (Nat.le_refl _) _).alloc (by simp) _).alloc (by simp; omega) _)
  have Ca_W_0 := Lib.hid (show W.cell? ⟨w.heap.size, 0, none⟩ = some (.int .i64 xa) by rw [hW]; simp [go_sem])
  have Ca_W_1 := Lib.hid (show W.cell? ⟨w.heap.size, 1, none⟩ = some (.int .i64 ya) by rw [hW]; simp [go_sem])
  have Cb_W_0 := Lib.hid (show W.cell? ⟨w.heap.size + 1, 0, none⟩ = some (.int .i64 xb) by rw [hW]; simp [go_sem])
  have Cb_W_1 := Lib.hid (show W.cell? ⟨w.heap.size + 1, 1, none⟩ = some (.int .i64 yb) by rw [hW]; simp [go_sem])
  have Cc_W_0 := Lib.hid (show W.cell? ⟨w.heap.size + 1 + 1, 0, none⟩ = some (.int .i64 xc) by rw [hW]; simp [go_sem])
  have Cc_W_1 := Lib.hid (show W.cell? ⟨w.heap.size + 1 + 1, 1, none⟩ = some (.int .i64 yc) by rw [hW]; simp [go_sem])
  have HW := Lib.hid hW
  clear hW
  go_enter Tryd.func7, Tryd.ntmps7
  go_upto_region 1 with (fail)
  rw [← HW.out]
  refine box_plan (c := ⟨w, W, (fun _ => none)⟩) (Ctx.ok_none hb0) (by kernel_rfl) [[], [], [(17, 0), (18, 1)], [], [], [(20, 3), (21, 4)], [], [], [(7, 6), (19, 2)], [(8, 7), (22, 5)]] [(17, 0), (18, 1), (19, 2), (20, 3), (21, 4), (22, 5), (7, 6), (8, 7)] [
      (fun v _ _ => v = .agg #[.int .i64 xa, .int .i64 ya]),
      (fun v _ _ => v = .agg #[.int .i64 xb, .int .i64 yb]),
      VecL (xb - xa) (yb - ya),
      (fun v _ _ => v = .agg #[.int .i64 xa, .int .i64 ya]),
      (fun v _ _ => v = .agg #[.int .i64 xc, .int .i64 yc]),
      VecL (xc - xa) (yc - ya),
      PtrR 6 2,
      PtrR 7 2,
      (fun _ g w => BoxR 6 (VecL (xb - xa) (yb - ya)) g w),
      (fun _ g w => BoxR 7 (VecL (xc - xa) (yc - ya)) g w)
    ] (fun i => match i with | 6 => some 8 | 7 => some 9 | _ => none) (by kernel_rfl) (by kernel_rfl) ⟨stab_eq, stab_eq, stab_firm (vecL_firm _ _), stab_eq, stab_eq, stab_firm (vecL_firm _ _), stab_ptr, stab_ptr, stab_box (vecL_firm _ _) rfl, stab_box (vecL_firm _ _) rfl, trivial⟩ ?steps ?fin
  case steps =>
    refine ⟨?_, ?_, ?_, ?_, ?_, ?_, ?_, ?_, ?_, ?_, trivial⟩
    · intro vs g w2 hI hF hR K hK
      simp only [Facts, fill, Act.put, z1, z2, z3, z4, z5, Nat.reduceAdd] at hF hR hK ⊢
      have k0 := hI.cell Ca_W_0.out (fun _ h => by cases h)
      have k1 := hI.cell Ca_W_1.out (fun _ h => by cases h)
      go_simp
      exact hK _ _ _ hI (Step.refl hI) rfl
    · intro vs g w2 hI hF hR K hK
      simp only [Facts, fill, Act.put, z1, z2, z3, z4, z5, Nat.reduceAdd] at hF hR hK ⊢
      have k0 := hI.cell Cb_W_0.out (fun _ h => by cases h)
      have k1 := hI.cell Cb_W_1.out (fun _ h => by cases h)
      go_simp
      exact hK _ _ _ hI (Step.refl hI) rfl
    · intro vs g w2 hI hF hR K hK
      simp only [Facts, fill, Act.put, z1, z2, z3, z4, z5, Nat.reduceAdd] at hF hR hK ⊢
      obtain ⟨r0, r1, -⟩ := hR
      generalize vs 0 = x0, vs 1 = x1 at *
      subst r0 r1
      go_simp
      refine (gBetween hI hw (by first | assumption | (unfold S; decide)) (by first | assumption | (unfold S; decide)) (by first | assumption | (unfold S; decide)) (by first | assumption | (unfold S; decide))).mono ?_
      rintro e w3 ⟨v3, rfl, hv, hb⟩
      exact hK _ _ _ (hI.call hb) (Step.call hI hb) hv
    · intro vs g w2 hI hF hR K hK
      simp only [Facts, fill, Act.put, z1, z2, z3, z4, z5, Nat.reduceAdd] at hF hR hK ⊢
      have k0 := hI.cell Ca_W_0.out (fun _ h => by cases h)
      have k1 := hI.cell Ca_W_1.out (fun _ h => by cases h)
      go_simp
      exact hK _ _ _ hI (Step.refl hI) rfl
    · intro vs g w2 hI hF hR K hK
      simp only [Facts, fill, Act.put, z1, z2, z3, z4, z5, Nat.reduceAdd] at hF hR hK ⊢
      have k0 := hI.cell Cc_W_0.out (fun _ h => by cases h)
      have k1 := hI.cell Cc_W_1.out (fun _ h => by cases h)
      go_simp
      exact hK _ _ _ hI (Step.refl hI) rfl
    · intro vs g w2 hI hF hR K hK
      simp only [Facts, fill, Act.put, z1, z2, z3, z4, z5, Nat.reduceAdd] at hF hR hK ⊢
      obtain ⟨r3, r4, -⟩ := hR
      generalize vs 3 = x3, vs 4 = x4 at *
      subst r3 r4
      go_simp
      refine (gBetween hI hw (by first | assumption | (unfold S; decide)) (by first | assumption | (unfold S; decide)) (by first | assumption | (unfold S; decide)) (by first | assumption | (unfold S; decide))).mono ?_
      rintro e w3 ⟨v3, rfl, hv, hb⟩
      exact hK _ _ _ (hI.call hb) (Step.call hI hb) hv
    · intro vs g w2 hI hF hR K hK
      simp only [Facts, fill, Act.put, z1, z2, z3, z4, z5, Nat.reduceAdd] at hF hR hK ⊢
      go_simp
      exact hK _ _ _ (hI.alloc _ (hF (by decide)) _) (Step.alloc hI (hF (by decide)) _) ⟨_, rfl, more_at _ _ _, box2' _ _ _ _⟩
    · intro vs g w2 hI hF hR K hK
      simp only [Facts, fill, Act.put, z1, z2, z3, z4, z5, Nat.reduceAdd] at hF hR hK ⊢
      go_simp
      exact hK _ _ _ (hI.alloc _ (hF (by decide)) _) (Step.alloc hI (hF (by decide)) _) ⟨_, rfl, more_at _ _ _, box2' _ _ _ _⟩
    · intro vs g w2 hI hF hR K hK
      simp only [Facts, fill, Act.put, z1, z2, z3, z4, z5, Nat.reduceAdd] at hF hR hK ⊢
      obtain ⟨r6, r2, -⟩ := hR
      generalize vs 6 = x6, vs 2 = x2 at *
      obtain ⟨k, rfl, hk, hbx⟩ := r6
      have qx := r2
      obtain ⟨A8, c8, B8, d8, rfl⟩ := vecL_open r2
      obtain ⟨⟨u0, k0⟩, f0⟩ := hbx 0 (by decide)
      obtain ⟨⟨u1, k1⟩, f1⟩ := hbx 1 (by decide)
      go_simp
      have ht := (((Touch.refl w2 k).set 0 (.slice A8 2 c8)).set 1 (.slice B8 2 d8))
      exact hK undef _ _ (hI.store (by decide) hk ht) (Step.store hI rfl hk ht) ⟨k, .agg #[.slice A8 2 c8, .slice B8 2 d8], hk, by rw [ht.size]; exact hI.lt _ _ hk, cells2 k0 k1 (.slice A8 2 c8) (.slice B8 2 d8), ((vecL_firm _ _) _ _ _ _ _ qx (ht.keeps hk))⟩
    · intro vs g w2 hI hF hR K hK
      simp only [Facts, fill, Act.put, z1, z2, z3, z4, z5, Nat.reduceAdd] at hF hR hK ⊢
      obtain ⟨r7, r5, -⟩ := hR
      generalize vs 7 = x7, vs 5 = x5 at *
      obtain ⟨k, rfl, hk, hbx⟩ := r7
      have qx := r5
      obtain ⟨A9, c9, B9, d9, rfl⟩ := vecL_open r5
      obtain ⟨⟨u0, k0⟩, f0⟩ := hbx 0 (by decide)
      obtain ⟨⟨u1, k1⟩, f1⟩ := hbx 1 (by decide)
      go_simp
      have ht := (((Touch.refl w2 k).set 0 (.slice A9 2 c9)).set 1 (.slice B9 2 d9))
      exact hK undef _ _ (hI.store (by decide) hk ht) (Step.store hI rfl hk ht) ⟨k, .agg #[.slice A9 2 c9, .slice B9 2 d9], hk, by rw [ht.size]; exact hI.lt _ _ hk, cells2 k0 k1 (.slice A9 2 c9) (.slice B9 2 d9), ((vecL_firm _ _) _ _ _ _ _ qx (ht.keeps hk))⟩
  case fin =>
    intro vs g wR1 hI hR
    have r6 := hR 6 (by decide)
    have r7 := hR 7 (by decide)
    have r8 := hR 8 (by decide)
    have r9 := hR 9 (by decide)
    simp only [fill, Act.put, z1, z2, z3, z4, z5] at r6 r7 r8 r9 ⊢
    clear hR
    generalize vs 6 = x6 at *
    generalize vs 7 = x7 at *
    generalize vs 8 = x8 at *
    generalize vs 9 = x9 at *
    have Ca_R1_0 := Lib.hid (hI.cell Ca_W_0.out (fun _ h => by cases h))
    have Ca_R1_1 := Lib.hid (hI.cell Ca_W_1.out (fun _ h => by cases h))
    have Cb_R1_0 := Lib.hid (hI.cell Cb_W_0.out (fun _ h => by cases h))
    have Cb_R1_1 := Lib.hid (hI.cell Cb_W_1.out (fun _ h => by cases h))
    have Cc_R1_0 := Lib.hid (hI.cell Cc_W_0.out (fun _ h => by cases h))
    have Cc_R1_1 := Lib.hid (hI.cell Cc_W_1.out (fun _ h => by cases h))
    obtain ⟨pR17, rfl, hkR17, -⟩ := r6
    obtain ⟨qR17, uR17, hqR17, -, hcR17, hrR17⟩ := r8
    rw [hkR17] at hqR17
    injection hqR17 with hqR17
    subst hqR17
    have qfR17 := hrR17
    obtain ⟨AvR17, cvR17, BvR17, dvR17, rfl⟩ := vecL_open hrR17
    have FR17_R1_0 := Lib.hid ((vecL_firm _ _) _ _ _ _ _ qfR17 hI.back)
    clear qfR17
    have FR17_R1_1 := Lib.hid (vecL_x FR17_R1_0.out)
    have FR17_R1_2 := Lib.hid (vecL_y FR17_R1_0.out)
    have CR17_R1_0 := Lib.hid (hcR17 0 _ rfl)
    have CR17_R1_1 := Lib.hid (hcR17 1 _ rfl)
    clear hcR17 hkR17
    obtain ⟨pR18, rfl, hkR18, -⟩ := r7
    obtain ⟨qR18, uR18, hqR18, -, hcR18, hrR18⟩ := r9
    rw [hkR18] at hqR18
    injection hqR18 with hqR18
    subst hqR18
    have qfR18 := hrR18
    obtain ⟨AvR18, cvR18, BvR18, dvR18, rfl⟩ := vecL_open hrR18
    have FR18_R1_0 := Lib.hid ((vecL_firm _ _) _ _ _ _ _ qfR18 hI.back)
    clear qfR18
    have FR18_R1_1 := Lib.hid (vecL_x FR18_R1_0.out)
    have FR18_R1_2 := Lib.hid (vecL_y FR18_R1_0.out)
    have CR18_R1_0 := Lib.hid (hcR18 0 _ rfl)
    have CR18_R1_1 := Lib.hid (hcR18 1 _ rfl)
    clear hcR18 hkR18
    have hBR1 := hI.below
    have HCR1 := hI.next (Ctx.ok_none hb0)
    clear hI
    go_upto_region 2 with (fail)
    refine box_plan (c := ⟨w, wR1, (fun _ => none)⟩) HCR1 (by kernel_rfl) [[], [], [(23, 0), (24, 1)], [], [], [(26, 3), (27, 4)], [], [(29, 6)], [], [(31, 8)], [(25, 2)], [(28, 5)], [(30, 7)], [(32, 9)]] [(23, 0), (24, 1), (25, 2), (26, 3), (27, 4), (28, 5), (29, 6), (30, 7), (31, 8), (32, 9), (9, 10), (10, 11), (11, 12), (12, 13)] [
        (fun v _ _ => v = .agg #[.slice AvR17 2 cvR17, .slice BvR17 2 dvR17]),
        (fun v _ _ => v = .agg #[.slice AvR18 2 cvR18, .slice BvR18 2 dvR18]),
        LimR 4 ((xb - xa) * (yc - ya) - (yb - ya) * (xc - xa)),
        (fun v _ _ => v = .agg #[.slice AvR17 2 cvR17, .slice BvR17 2 dvR17]),
        (fun v _ _ => v = .agg #[.slice AvR18 2 cvR18, .slice BvR18 2 dvR18]),
        LimR 4 ((xb - xa) * (xc - xa) + (yb - ya) * (yc - ya)),
        (fun v _ _ => v = .agg #[.slice AvR17 2 cvR17, .slice BvR17 2 dvR17]),
        LimR 4 ((xb - xa) * (xb - xa) + (yb - ya) * (yb - ya)),
        (fun v _ _ => v = .agg #[.slice AvR18 2 cvR18, .slice BvR18 2 dvR18]),
        LimR 4 ((xc - xa) * (xc - xa) + (yc - ya) * (yc - ya)),
        LimR 4 ((xb - xa) * (yc - ya) - (yb - ya) * (xc - xa)),
        LimR 4 ((xb - xa) * (xc - xa) + (yb - ya) * (yc - ya)),
        LimR 4 ((xb - xa) * (xb - xa) + (yb - ya) * (yb - ya)),
        LimR 4 ((xc - xa) * (xc - xa) + (yc - ya) * (yc - ya))
      ] (fun _ => none) (by kernel_rfl) (by kernel_rfl) ⟨stab_eq, stab_eq, stab_firm (limR_firm _ _), stab_eq, stab_eq, stab_firm (limR_firm _ _), stab_eq, stab_firm (limR_firm _ _), stab_eq, stab_firm (limR_firm _ _), stab_firm (limR_firm _ _), stab_firm (limR_firm _ _), stab_firm (limR_firm _ _), stab_firm (limR_firm _ _), trivial⟩ ?steps ?fin
    case steps =>
      refine ⟨?_, ?_, ?_, ?_, ?_, ?_, ?_, ?_, ?_, ?_, ?_, ?_, ?_, ?_, trivial⟩
      · intro vs g w2 hI hF hR K hK
        simp only [Facts, fill, Act.put, z1, z2, z3, z4, z5, Nat.reduceAdd] at hF hR hK ⊢
        have k0 := hI.cell CR17_R1_0.out (fun _ h => by cases h)
        have k1 := hI.cell CR17_R1_1.out (fun _ h => by cases h)
        go_simp
        exact hK _ _ _ hI (Step.refl hI) rfl
      · intro vs g w2 hI hF hR K hK
        simp only [Facts, fill, Act.put, z1, z2, z3, z4, z5, Nat.reduceAdd] at hF hR hK ⊢
        have k0 := hI.cell CR18_R1_0.out (fun _ h => by cases h)
        have k1 := hI.cell CR18_R1_1.out (fun _ h => by cases h)
        go_simp
        exact hK _ _ _ hI (Step.refl hI) rfl
      · intro vs g w2 hI hF hR K hK
        simp only [Facts, fill, Act.put, z1, z2, z3, z4, z5, Nat.reduceAdd] at hF hR hK ⊢
        obtain ⟨r0, r1, -⟩ := hR
        generalize vs 0 = x0, vs 1 = x1 at *
        subst r0 r1
        go_simp
        refine (gCross hI hw ((vecL_firm _ _) _ _ _ _ _ FR17_R1_0.out hI.keeps) ((vecL_firm _ _) _ _ _ _ _ FR18_R1_0.out hI.keeps) (by first | exact HE0.out | exact HE1.out | exact HE2.out | exact HE3.out | exact Fit.sv (by repeat first | exact S.diff (by first | assumption | (unfold S; decide)) (by first | assumption | (unfold S; decide)) | apply Fit.neg | (unfold Fit; decide +kernel))) (by first | exact HE0.out | exact HE1.out | exact HE2.out | exact HE3.out | exact Fit.sv (by repeat first | exact S.diff (by first | assumption | (unfold S; decide)) (by first | assumption | (unfold S; decide)) | apply Fit.neg | (unfold Fit; decide +kernel))) (by first | exact HE0.out | exact HE1.out | exact HE2.out | exact HE3.out | exact Fit.sv (by repeat first | exact S.diff (by first | assumption | (unfold S; decide)) (by first | assumption | (unfold S; decide)) | apply Fit.neg | (unfold Fit; decide +kernel))) (by first | exact HE0.out | exact HE1.out | exact HE2.out | exact HE3.out | exact Fit.sv (by repeat first | exact S.diff (by first | assumption | (unfold S; decide)) (by first | assumption | (unfold S; decide)) | apply Fit.neg | (unfold Fit; decide +kernel)))).mono ?_
        rintro e w3 ⟨v3, rfl, hv, hb⟩
        exact hK _ _ _ (hI.call hb) (Step.call hI hb) hv
      · intro vs g w2 hI hF hR K hK
        simp only [Facts, fill, Act.put, z1, z2, z3, z4, z5, Nat.reduceAdd] at hF hR hK ⊢
        have k0 := hI.cell CR17_R1_0.out (fun _ h => by cases h)
        have k1 := hI.cell CR17_R1_1.out (fun _ h => by cases h)
        go_simp
        exact hK _ _ _ hI (Step.refl hI) rfl
      · intro vs g w2 hI hF hR K hK
        simp only [Facts, fill, Act.put, z1, z2, z3, z4, z5, Nat.reduceAdd] at hF hR hK ⊢
        have k0 := hI.cell CR18_R1_0.out (fun _ h => by cases h)
        have k1 := hI.cell CR18_R1_1.out (fun _ h => by cases h)
        go_simp
        exact hK _ _ _ hI (Step.refl hI) rfl
      · intro vs g w2 hI hF hR K hK
        simp only [Facts, fill, Act.put, z1, z2, z3, z4, z5, Nat.reduceAdd] at hF hR hK ⊢
        obtain ⟨r3, r4, -⟩ := hR
        generalize vs 3 = x3, vs 4 = x4 at *
        subst r3 r4
        go_simp
        refine (gDot hI hw ((vecL_firm _ _) _ _ _ _ _ FR17_R1_0.out hI.keeps) ((vecL_firm _ _) _ _ _ _ _ FR18_R1_0.out hI.keeps) (by first | exact HE0.out | exact HE1.out | exact HE2.out | exact HE3.out | exact Fit.sv (by repeat first | exact S.diff (by first | assumption | (unfold S; decide)) (by first | assumption | (unfold S; decide)) | apply Fit.neg | (unfold Fit; decide +kernel))) (by first | exact HE0.out | exact HE1.out | exact HE2.out | exact HE3.out | exact Fit.sv (by repeat first | exact S.diff (by first | assumption | (unfold S; decide)) (by first | assumption | (unfold S; decide)) | apply Fit.neg | (unfold Fit; decide +kernel))) (by first | exact HE0.out | exact HE1.out | exact HE2.out | exact HE3.out | exact Fit.sv (by repeat first | exact S.diff (by first | assumption | (unfold S; decide)) (by first | assumption | (unfold S; decide)) | apply Fit.neg | (unfold Fit; decide +kernel))) (by first | exact HE0.out | exact HE1.out | exact HE2.out | exact HE3.out | exact Fit.sv (by repeat first | exact S.diff (by first | assumption | (unfold S; decide)) (by first | assumption | (unfold S; decide)) | apply Fit.neg | (unfold Fit; decide +kernel)))).mono ?_
        rintro e w3 ⟨v3, rfl, hv, hb⟩
        exact hK _ _ _ (hI.call hb) (Step.call hI hb) hv
      · intro vs g w2 hI hF hR K hK
        simp only [Facts, fill, Act.put, z1, z2, z3, z4, z5, Nat.reduceAdd] at hF hR hK ⊢
        have k0 := hI.cell CR17_R1_0.out (fun _ h => by cases h)
        have k1 := hI.cell CR17_R1_1.out (fun _ h => by cases h)
        go_simp
        exact hK _ _ _ hI (Step.refl hI) rfl
      · intro vs g w2 hI hF hR K hK
        simp only [Facts, fill, Act.put, z1, z2, z3, z4, z5, Nat.reduceAdd] at hF hR hK ⊢
        obtain ⟨r6, -⟩ := hR
        generalize vs 6 = x6 at *
        subst r6
        go_simp
        refine (gNorm hI hw ((vecL_firm _ _) _ _ _ _ _ FR17_R1_0.out hI.keeps) (by first | exact HE0.out | exact HE1.out | exact HE2.out | exact HE3.out | exact Fit.sv (by repeat first | exact S.diff (by first | assumption | (unfold S; decide)) (by first | assumption | (unfold S; decide)) | apply Fit.neg | (unfold Fit; decide +kernel))) (by first | exact HE0.out | exact HE1.out | exact HE2.out | exact HE3.out | exact Fit.sv (by repeat first | exact S.diff (by first | assumption | (unfold S; decide)) (by first | assumption | (unfold S; decide)) | apply Fit.neg | (unfold Fit; decide +kernel)))).mono ?_
        rintro e w3 ⟨v3, rfl, hv, hb⟩
        exact hK _ _ _ (hI.call hb) (Step.call hI hb) hv
      · intro vs g w2 hI hF hR K hK
        simp only [Facts, fill, Act.put, z1, z2, z3, z4, z5, Nat.reduceAdd] at hF hR hK ⊢
        have k0 := hI.cell CR18_R1_0.out (fun _ h => by cases h)
        have k1 := hI.cell CR18_R1_1.out (fun _ h => by cases h)
        go_simp
        exact hK _ _ _ hI (Step.refl hI) rfl
      · intro vs g w2 hI hF hR K hK
        simp only [Facts, fill, Act.put, z1, z2, z3, z4, z5, Nat.reduceAdd] at hF hR hK ⊢
        obtain ⟨r8, -⟩ := hR
        generalize vs 8 = x8 at *
        subst r8
        go_simp
        refine (gNorm hI hw ((vecL_firm _ _) _ _ _ _ _ FR18_R1_0.out hI.keeps) (by first | exact HE0.out | exact HE1.out | exact HE2.out | exact HE3.out | exact Fit.sv (by repeat first | exact S.diff (by first | assumption | (unfold S; decide)) (by first | assumption | (unfold S; decide)) | apply Fit.neg | (unfold Fit; decide +kernel))) (by first | exact HE0.out | exact HE1.out | exact HE2.out | exact HE3.out | exact Fit.sv (by repeat first | exact S.diff (by first | assumption | (unfold S; decide)) (by first | assumption | (unfold S; decide)) | apply Fit.neg | (unfold Fit; decide +kernel)))).mono ?_
        rintro e w3 ⟨v3, rfl, hv, hb⟩
        exact hK _ _ _ (hI.call hb) (Step.call hI hb) hv
      · intro vs g w2 hI hF hR K hK
        simp only [Facts, fill, Act.put, z1, z2, z3, z4, z5, Nat.reduceAdd] at hF hR hK ⊢
        obtain ⟨r2, -⟩ := hR
        generalize vs 2 = x2 at *
        go_simp
        exact hK _ _ _ hI (Step.refl hI) r2
      · intro vs g w2 hI hF hR K hK
        simp only [Facts, fill, Act.put, z1, z2, z3, z4, z5, Nat.reduceAdd] at hF hR hK ⊢
        obtain ⟨r5, -⟩ := hR
        generalize vs 5 = x5 at *
        go_simp
        exact hK _ _ _ hI (Step.refl hI) r5
      · intro vs g w2 hI hF hR K hK
        simp only [Facts, fill, Act.put, z1, z2, z3, z4, z5, Nat.reduceAdd] at hF hR hK ⊢
        obtain ⟨r7, -⟩ := hR
        generalize vs 7 = x7 at *
        go_simp
        exact hK _ _ _ hI (Step.refl hI) r7
      · intro vs g w2 hI hF hR K hK
        simp only [Facts, fill, Act.put, z1, z2, z3, z4, z5, Nat.reduceAdd] at hF hR hK ⊢
        obtain ⟨r9, -⟩ := hR
        generalize vs 9 = x9 at *
        go_simp
        exact hK _ _ _ hI (Step.refl hI) r9
    case fin =>
      intro vs g wR2 hI hR
      have r10 := hR 10 (by decide)
      have r11 := hR 11 (by decide)
      have r12 := hR 12 (by decide)
      have r13 := hR 13 (by decide)
      simp only [fill, Act.put, z1, z2, z3, z4, z5] at r10 r11 r12 r13 ⊢
      clear hR
      generalize vs 10 = x10 at *
      generalize vs 11 = x11 at *
      generalize vs 12 = x12 at *
      generalize vs 13 = x13 at *
      have Ca_R2_0 := Lib.hid (hI.cell Ca_R1_0.out (fun _ h => by cases h))
      have Ca_R2_1 := Lib.hid (hI.cell Ca_R1_1.out (fun _ h => by cases h))
      have Cb_R2_0 := Lib.hid (hI.cell Cb_R1_0.out (fun _ h => by cases h))
      have Cb_R2_1 := Lib.hid (hI.cell Cb_R1_1.out (fun _ h => by cases h))
      have Cc_R2_0 := Lib.hid (hI.cell Cc_R1_0.out (fun _ h => by cases h))
      have Cc_R2_1 := Lib.hid (hI.cell Cc_R1_1.out (fun _ h => by cases h))
      have CR17_R2_0 := Lib.hid (hI.cell CR17_R1_0.out (fun _ h => by cases h))
      have CR17_R2_1 := Lib.hid (hI.cell CR17_R1_1.out (fun _ h => by cases h))
      have FR17_R2_0 := Lib.hid ((vecL_firm _ _) _ _ _ _ _ FR17_R1_0.out hI.carry)
      have FR17_R2_1 := Lib.hid ((limR_firm _ _) _ _ _ _ _ FR17_R1_1.out hI.carry)
      have FR17_R2_2 := Lib.hid ((limR_firm _ _) _ _ _ _ _ FR17_R1_2.out hI.carry)
      have CR18_R2_0 := Lib.hid (hI.cell CR18_R1_0.out (fun _ h => by cases h))
      have CR18_R2_1 := Lib.hid (hI.cell CR18_R1_1.out (fun _ h => by cases h))
      have FR18_R2_0 := Lib.hid ((vecL_firm _ _) _ _ _ _ _ FR18_R1_0.out hI.carry)
      have FR18_R2_1 := Lib.hid ((limR_firm _ _) _ _ _ _ _ FR18_R1_1.out hI.carry)
      have FR18_R2_2 := Lib.hid ((limR_firm _ _) _ _ _ _ _ FR18_R1_2.out hI.carry)
      have qfR29 := r10
      obtain ⟨AvR29, cvR29, rfl⟩ := limR_open r10
      have FR29_R2_0 := Lib.hid ((limR_firm _ _) _ _ _ _ _ qfR29 hI.back)
      clear qfR29
      have qfR210 := r11
      obtain ⟨AvR210, cvR210, rfl⟩ := limR_open r11
      have FR210_R2_0 := Lib.hid ((limR_firm _ _) _ _ _ _ _ qfR210 hI.back)
      clear qfR210
      have qfR211 := r12
      obtain ⟨AvR211, cvR211, rfl⟩ := limR_open r12
      have FR211_R2_0 := Lib.hid ((limR_firm _ _) _ _ _ _ _ qfR211 hI.back)
      clear qfR211
      have qfR212 := r13
      obtain ⟨AvR212, cvR212, rfl⟩ := limR_open r13
      have FR212_R2_0 := Lib.hid ((limR_firm _ _) _ _ _ _ _ qfR212 hI.back)
      clear qfR212
      have hBR2 := hI.below
      have HCR2 := hI.next HCR1
      clear hI
      go_upto_region 3 with (fail)
      refine box_plan0 (c := ⟨w, wR2, (fun _ => none)⟩) HCR2 [[], [(33, 0)], [(34, 1)], [(35, 2)], [(36, 3)], [(36, 3), (37, 4)], [(36, 3), (38, 5)], [(36, 3), (39, 6)], [(40, 7)], [(41, 8)], [(41, 8), (42, 9)], [(41, 8), (43, 10)], [(41, 8), (44, 11)], [(45, 12)], [(46, 13)], [(46, 13), (47, 14)], [(46, 13), (48, 15)], [(46, 13), (49, 16)]] [(33, 0), (34, 1), (35, 2), (36, 3), (37, 4), (38, 5), (39, 6), (40, 7), (41, 8), (42, 9), (43, 10), (44, 11), (45, 12), (46, 13), (47, 14), (48, 15), (49, 16), (50, 17)] [
          (fun v _ _ => v = .slice AvR29 4 cvR29),
          (fun v _ _ => v = .int .i64 4),
          (fun v _ _ => v = .bool false),
          (fun v _ _ => v = .bool false),
          (fun v _ _ => v = .slice AvR210 4 cvR210),
          (fun v _ _ => v = .int .i64 4),
          (fun v _ _ => v = .bool false),
          (fun v _ _ => v = .bool false),
          (fun v _ _ => v = .bool false),
          (fun v _ _ => v = .slice AvR211 4 cvR211),
          (fun v _ _ => v = .int .i64 4),
          (fun v _ _ => v = .bool false),
          (fun v _ _ => v = .bool false),
          (fun v _ _ => v = .bool false),
          (fun v _ _ => v = .slice AvR212 4 cvR212),
          (fun v _ _ => v = .int .i64 4),
          (fun v _ _ => v = .bool false),
          (fun v _ _ => v = .bool false)
        ] (fun _ => none) (by kernel_rfl) (by kernel_rfl) ⟨stab_eq, stab_eq, stab_eq, stab_eq, stab_eq, stab_eq, stab_eq, stab_eq, stab_eq, stab_eq, stab_eq, stab_eq, stab_eq, stab_eq, stab_eq, stab_eq, stab_eq, stab_eq, trivial⟩ ?steps ?fin
      case steps =>
        refine ⟨?_, ?_, ?_, ?_, ?_, ?_, ?_, ?_, ?_, ?_, ?_, ?_, ?_, ?_, ?_, ?_, ?_, ?_, trivial⟩
        · intro vs g w2 hI hF hR K hK
          simp only [Facts, fill, Act.put, z1, z2, z3, z4, z5, Nat.reduceAdd] at hF hR hK ⊢
          go_simp
          exact hK _ _ _ hI (Step.refl hI) rfl
        · intro vs g w2 hI hF hR K hK
          simp only [Facts, fill, Act.put, z1, z2, z3, z4, z5, Nat.reduceAdd] at hF hR hK ⊢
          obtain ⟨r0, -⟩ := hR
          generalize vs 0 = x0 at *
          subst r0
          go_simp
          exact hK _ _ _ hI (Step.refl hI) rfl
        · intro vs g w2 hI hF hR K hK
          simp only [Facts, fill, Act.put, z1, z2, z3, z4, z5, Nat.reduceAdd] at hF hR hK ⊢
          obtain ⟨r1, -⟩ := hR
          generalize vs 1 = x1 at *
          subst r1
          go_simp
          exact hK _ _ _ hI (Step.refl hI) rfl
        · intro vs g w2 hI hF hR K hK
          simp only [Facts, fill, Act.put, z1, z2, z3, z4, z5, Nat.reduceAdd] at hF hR hK ⊢
          obtain ⟨r2, -⟩ := hR
          generalize vs 2 = x2 at *
          subst r2
          go_simp
          exact hK _ _ _ hI (Step.refl hI) rfl
        · intro vs g w2 hI hF hR K hK
          simp only [Facts, fill, Act.put, z1, z2, z3, z4, z5, Nat.reduceAdd] at hF hR hK ⊢
          obtain ⟨r3, -⟩ := hR
          generalize vs 3 = x3 at *
          subst r3
          go_simp
          exact hK _ _ _ hI (Step.refl hI) rfl
        · intro vs g w2 hI hF hR K hK
          simp only [Facts, fill, Act.put, z1, z2, z3, z4, z5, Nat.reduceAdd] at hF hR hK ⊢
          obtain ⟨r3, r4, -⟩ := hR
          generalize vs 3 = x3, vs 4 = x4 at *
          subst r3 r4
          go_simp
          exact hK _ _ _ hI (Step.refl hI) rfl
        · intro vs g w2 hI hF hR K hK
          simp only [Facts, fill, Act.put, z1, z2, z3, z4, z5, Nat.reduceAdd] at hF hR hK ⊢
          obtain ⟨r3, r5, -⟩ := hR
          generalize vs 3 = x3, vs 5 = x5 at *
          subst r3 r5
          go_simp
          exact hK _ _ _ hI (Step.refl hI) rfl
        · intro vs g w2 hI hF hR K hK
          simp only [Facts, fill, Act.put, z1, z2, z3, z4, z5, Nat.reduceAdd] at hF hR hK ⊢
          obtain ⟨r3, r6, -⟩ := hR
          generalize vs 3 = x3, vs 6 = x6 at *
          subst r3 r6
          go_simp
          exact hK _ _ _ hI (Step.refl hI) rfl
        · intro vs g w2 hI hF hR K hK
          simp only [Facts, fill, Act.put, z1, z2, z3, z4, z5, Nat.reduceAdd] at hF hR hK ⊢
          obtain ⟨r7, -⟩ := hR
          generalize vs 7 = x7 at *
          subst r7
          go_simp
          exact hK _ _ _ hI (Step.refl hI) rfl
        · intro vs g w2 hI hF hR K hK
          simp only [Facts, fill, Act.put, z1, z2, z3, z4, z5, Nat.reduceAdd] at hF hR hK ⊢
          obtain ⟨r8, -⟩ := hR
          generalize vs 8 = x8 at *
          subst r8
          go_simp
          exact hK _ _ _ hI (Step.refl hI) rfl
        · intro vs g w2 hI hF hR K hK
          simp only [Facts, fill, Act.put, z1, z2, z3, z4, z5, Nat.reduceAdd] at hF hR hK ⊢
          obtain ⟨r8, r9, -⟩ := hR
          generalize vs 8 = x8, vs 9 = x9 at *
          subst r8 r9
          go_simp
          exact hK _ _ _ hI (Step.refl hI) rfl
        · intro vs g w2 hI hF hR K hK
          simp only [Facts, fill, Act.put, z1, z2, z3, z4, z5, Nat.reduceAdd] at hF hR hK ⊢
          obtain ⟨r8, r10, -⟩ := hR
          generalize vs 8 = x8, vs 10 = x10 at *
          subst r8 r10
          go_simp
          exact hK _ _ _ hI (Step.refl hI) rfl
        · intro vs g w2 hI hF hR K hK
          simp only [Facts, fill, Act.put, z1, z2, z3, z4, z5, Nat.reduceAdd] at hF hR hK ⊢
          obtain ⟨r8, r11, -⟩ := hR
          generalize vs 8 = x8, vs 11 = x11 at *
          subst r8 r11
          go_simp
          exact hK _ _ _ hI (Step.refl hI) rfl
        · intro vs g w2 hI hF hR K hK
          simp only [Facts, fill, Act.put, z1, z2, z3, z4, z5, Nat.reduceAdd] at hF hR hK ⊢
          obtain ⟨r12, -⟩ := hR
          generalize vs 12 = x12 at *
          subst r12
          go_simp
          exact hK _ _ _ hI (Step.refl hI) rfl
        · intro vs g w2 hI hF hR K hK
          simp only [Facts, fill, Act.put, z1, z2, z3, z4, z5, Nat.reduceAdd] at hF hR hK ⊢
          obtain ⟨r13, -⟩ := hR
          generalize vs 13 = x13 at *
          subst r13
          go_simp
          exact hK _ _ _ hI (Step.refl hI) rfl
        · intro vs g w2 hI hF hR K hK
          simp only [Facts, fill, Act.put, z1, z2, z3, z4, z5, Nat.reduceAdd] at hF hR hK ⊢
          obtain ⟨r13, r14, -⟩ := hR
          generalize vs 13 = x13, vs 14 = x14 at *
          subst r13 r14
          go_simp
          exact hK _ _ _ hI (Step.refl hI) rfl
        · intro vs g w2 hI hF hR K hK
          simp only [Facts, fill, Act.put, z1, z2, z3, z4, z5, Nat.reduceAdd] at hF hR hK ⊢
          obtain ⟨r13, r15, -⟩ := hR
          generalize vs 13 = x13, vs 15 = x15 at *
          subst r13 r15
          go_simp
          exact hK _ _ _ hI (Step.refl hI) rfl
        · intro vs g w2 hI hF hR K hK
          simp only [Facts, fill, Act.put, z1, z2, z3, z4, z5, Nat.reduceAdd] at hF hR hK ⊢
          obtain ⟨r13, r16, -⟩ := hR
          generalize vs 13 = x13, vs 16 = x16 at *
          subst r13 r16
          go_simp
          exact hK _ _ _ hI (Step.refl hI) rfl
      case fin =>
        intro vs g wR3 hI hR
        have r17 := hR 17 (by decide)
        simp only [fill, Act.put, z1, z2, z3, z4, z5] at r17 ⊢
        clear hR
        generalize vs 17 = x17 at *
        have Ca_R3_0 := Lib.hid (hI.cell Ca_R2_0.out (fun _ h => by cases h))
        have Ca_R3_1 := Lib.hid (hI.cell Ca_R2_1.out (fun _ h => by cases h))
        have Cb_R3_0 := Lib.hid (hI.cell Cb_R2_0.out (fun _ h => by cases h))
        have Cb_R3_1 := Lib.hid (hI.cell Cb_R2_1.out (fun _ h => by cases h))
        have Cc_R3_0 := Lib.hid (hI.cell Cc_R2_0.out (fun _ h => by cases h))
        have Cc_R3_1 := Lib.hid (hI.cell Cc_R2_1.out (fun _ h => by cases h))
        have CR17_R3_0 := Lib.hid (hI.cell CR17_R2_0.out (fun _ h => by cases h))
        have CR17_R3_1 := Lib.hid (hI.cell CR17_R2_1.out (fun _ h => by cases h))
        have FR17_R3_0 := Lib.hid ((vecL_firm _ _) _ _ _ _ _ FR17_R2_0.out hI.carry)
        have FR17_R3_1 := Lib.hid ((limR_firm _ _) _ _ _ _ _ FR17_R2_1.out hI.carry)
        have FR17_R3_2 := Lib.hid ((limR_firm _ _) _ _ _ _ _ FR17_R2_2.out hI.carry)
        have CR18_R3_0 := Lib.hid (hI.cell CR18_R2_0.out (fun _ h => by cases h))
        have CR18_R3_1 := Lib.hid (hI.cell CR18_R2_1.out (fun _ h => by cases h))
        have FR18_R3_0 := Lib.hid ((vecL_firm _ _) _ _ _ _ _ FR18_R2_0.out hI.carry)
        have FR18_R3_1 := Lib.hid ((limR_firm _ _) _ _ _ _ _ FR18_R2_1.out hI.carry)
        have FR18_R3_2 := Lib.hid ((limR_firm _ _) _ _ _ _ _ FR18_R2_2.out hI.carry)
        have FR29_R3_0 := Lib.hid ((limR_firm _ _) _ _ _ _ _ FR29_R2_0.out hI.carry)
        have FR210_R3_0 := Lib.hid ((limR_firm _ _) _ _ _ _ _ FR210_R2_0.out hI.carry)
        have FR211_R3_0 := Lib.hid ((limR_firm _ _) _ _ _ _ _ FR211_R2_0.out hI.carry)
        have FR212_R3_0 := Lib.hid ((limR_firm _ _) _ _ _ _ _ FR212_R2_0.out hI.carry)
        subst r17
        have hBR3 := hI.below
        have HCR3 := hI.next HCR2
        clear hI
        go_upto_region 5 with (fail)
        refine box_plan0 (c := ⟨w, wR3, (fun _ => none)⟩) HCR3 [[], [(51, 0)], [], [(53, 2)], [], [], [(13, 4), (52, 1)], [(14, 5), (54, 3)]] [(51, 0), (52, 1), (53, 2), (54, 3), (13, 4), (14, 5)] [
            (fun v _ _ => v = .slice AvR29 4 cvR29),
            NumG (4 * 4 + 2) ((xb - xa) * (yc - ya) - (yb - ya) * (xc - xa)),
            (fun v _ _ => v = .slice AvR210 4 cvR210),
            NumG (4 * 4 + 2) ((xb - xa) * (xc - xa) + (yb - ya) * (yc - ya)),
            PtrR 4 2,
            PtrR 5 2,
            (fun _ g w => BoxR 4 (NumG (4 * 4 + 2) ((xb - xa) * (yc - ya) - (yb - ya) * (xc - xa))) g w),
            (fun _ g w => BoxR 5 (NumG (4 * 4 + 2) ((xb - xa) * (xc - xa) + (yb - ya) * (yc - ya))) g w)
          ] (fun i => match i with | 4 => some 6 | 5 => some 7 | _ => none) (by kernel_rfl) (by kernel_rfl) ⟨stab_eq, stab_firm (numG_firm _ _), stab_eq, stab_firm (numG_firm _ _), stab_ptr, stab_ptr, stab_box (numG_firm _ _) rfl, stab_box (numG_firm _ _) rfl, trivial⟩ ?steps ?fin
        case steps =>
          refine ⟨?_, ?_, ?_, ?_, ?_, ?_, ?_, ?_, trivial⟩
          · intro vs g w2 hI hF hR K hK
            simp only [Facts, fill, Act.put, z1, z2, z3, z4, z5, Nat.reduceAdd] at hF hR hK ⊢
            go_simp
            exact hK _ _ _ hI (Step.refl hI) rfl
          · intro vs g w2 hI hF hR K hK
            simp only [Facts, fill, Act.put, z1, z2, z3, z4, z5, Nat.reduceAdd] at hF hR hK ⊢
            obtain ⟨r0, -⟩ := hR
            generalize vs 0 = x0 at *
            subst r0
            go_simp
            refine (gValueF hI ((limR_firm _ _) _ _ _ _ _ FR29_R3_0.out hI.keeps) (by decide) (by first | (refine fit4_sub ?_ ?_ ?_ ?_ <;> repeat first | exact S.diff (by first | assumption | (unfold S; decide)) (by first | assumption | (unfold S; decide)) | apply Fit.neg) | (refine fit4_add ?_ ?_ ?_ ?_ <;> repeat first | exact S.diff (by first | assumption | (unfold S; decide)) (by first | assumption | (unfold S; decide)) | apply Fit.neg))).mono ?_
            rintro e w3 ⟨v3, rfl, hv, hb⟩
            exact hK _ _ _ (hI.call hb) (Step.call hI hb) hv
          · intro vs g w2 hI hF hR K hK
            simp only [Facts, fill, Act.put, z1, z2, z3, z4, z5, Nat.reduceAdd] at hF hR hK ⊢
            go_simp
            exact hK _ _ _ hI (Step.refl hI) rfl
          · intro vs g w2 hI hF hR K hK
            simp only [Facts, fill, Act.put, z1, z2, z3, z4, z5, Nat.reduceAdd] at hF hR hK ⊢
            obtain ⟨r2, -⟩ := hR
            generalize vs 2 = x2 at *
            subst r2
            go_simp
            refine (gValueF hI ((limR_firm _ _) _ _ _ _ _ FR210_R3_0.out hI.keeps) (by decide) (by first | (refine fit4_sub ?_ ?_ ?_ ?_ <;> repeat first | exact S.diff (by first | assumption | (unfold S; decide)) (by first | assumption | (unfold S; decide)) | apply Fit.neg) | (refine fit4_add ?_ ?_ ?_ ?_ <;> repeat first | exact S.diff (by first | assumption | (unfold S; decide)) (by first | assumption | (unfold S; decide)) | apply Fit.neg))).mono ?_
            rintro e w3 ⟨v3, rfl, hv, hb⟩
            exact hK _ _ _ (hI.call hb) (Step.call hI hb) hv
          · intro vs g w2 hI hF hR K hK
            simp only [Facts, fill, Act.put, z1, z2, z3, z4, z5, Nat.reduceAdd] at hF hR hK ⊢
            go_simp
            exact hK _ _ _ (hI.alloc _ (hF (by decide)) _) (Step.alloc hI (hF (by decide)) _) ⟨_, rfl, more_at _ _ _, box2' _ _ _ _⟩
          · intro vs g w2 hI hF hR K hK
            simp only [Facts, fill, Act.put, z1, z2, z3, z4, z5, Nat.reduceAdd] at hF hR hK ⊢
            go_simp
            exact hK _ _ _ (hI.alloc _ (hF (by decide)) _) (Step.alloc hI (hF (by decide)) _) ⟨_, rfl, more_at _ _ _, box2' _ _ _ _⟩
          · intro vs g w2 hI hF hR K hK
            simp only [Facts, fill, Act.put, z1, z2, z3, z4, z5, Nat.reduceAdd] at hF hR hK ⊢
            obtain ⟨r4, r1, -⟩ := hR
            generalize vs 4 = x4, vs 1 = x1 at *
            obtain ⟨k, rfl, hk, hbx⟩ := r4
            have qx := r1
            obtain ⟨s6, A6, n6, c6, rfl, hs6⟩ := numG_open r1
            obtain ⟨⟨u0, k0⟩, f0⟩ := hbx 0 (by decide)
            obtain ⟨⟨u1, k1⟩, f1⟩ := hbx 1 (by decide)
            go_simp
            have ht := (((Touch.refl w2 k).set 0 (.int .i64 s6)).set 1 (.slice A6 n6 c6))
            exact hK undef _ _ (hI.store (by decide) hk ht) (Step.store hI rfl hk ht) ⟨k, .agg #[.int .i64 s6, .slice A6 n6 c6], hk, by rw [ht.size]; exact hI.lt _ _ hk, cells2 k0 k1 (.int .i64 s6) (.slice A6 n6 c6), ((numG_firm _ _) _ _ _ _ _ qx (ht.keeps hk))⟩
          · intro vs g w2 hI hF hR K hK
            simp only [Facts, fill, Act.put, z1, z2, z3, z4, z5, Nat.reduceAdd] at hF hR hK ⊢
            obtain ⟨r5, r3, -⟩ := hR
            generalize vs 5 = x5, vs 3 = x3 at *
            obtain ⟨k, rfl, hk, hbx⟩ := r5
            have qx := r3
            obtain ⟨s7, A7, n7, c7, rfl, hs7⟩ := numG_open r3
            obtain ⟨⟨u0, k0⟩, f0⟩ := hbx 0 (by decide)
            obtain ⟨⟨u1, k1⟩, f1⟩ := hbx 1 (by decide)
            go_simp
            have ht := (((Touch.refl w2 k).set 0 (.int .i64 s7)).set 1 (.slice A7 n7 c7))
            exact hK undef _ _ (hI.store (by decide) hk ht) (Step.store hI rfl hk ht) ⟨k, .agg #[.int .i64 s7, .slice A7 n7 c7], hk, by rw [ht.size]; exact hI.lt _ _ hk, cells2 k0 k1 (.int .i64 s7) (.slice A7 n7 c7), ((numG_firm _ _) _ _ _ _ _ qx (ht.keeps hk))⟩
        case fin =>
          intro vs g wR5 hI hR
          have r4 := hR 4 (by decide)
          have r5 := hR 5 (by decide)
          have r6 := hR 6 (by decide)
          have r7 := hR 7 (by decide)
          simp only [fill, Act.put, z1, z2, z3, z4, z5] at r4 r5 r6 r7 ⊢
          clear hR
          generalize vs 4 = x4 at *
          generalize vs 5 = x5 at *
          generalize vs 6 = x6 at *
          generalize vs 7 = x7 at *
          have Ca_R5_0 := Lib.hid (hI.cell Ca_R3_0.out (fun _ h => by cases h))
          have Ca_R5_1 := Lib.hid (hI.cell Ca_R3_1.out (fun _ h => by cases h))
          have Cb_R5_0 := Lib.hid (hI.cell Cb_R3_0.out (fun _ h => by cases h))
          have Cb_R5_1 := Lib.hid (hI.cell Cb_R3_1.out (fun _ h => by cases h))
          have Cc_R5_0 := Lib.hid (hI.cell Cc_R3_0.out (fun _ h => by cases h))
          have Cc_R5_1 := Lib.hid (hI.cell Cc_R3_1.out (fun _ h => by cases h))
          have CR17_R5_0 := Lib.hid (hI.cell CR17_R3_0.out (fun _ h => by cases h))
          have CR17_R5_1 := Lib.hid (hI.cell CR17_R3_1.out (fun _ h => by cases h))
          have FR17_R5_0 := Lib.hid ((vecL_firm _ _) _ _ _ _ _ FR17_R3_0.out hI.carry)
          have FR17_R5_1 := Lib.hid ((limR_firm _ _) _ _ _ _ _ FR17_R3_1.out hI.carry)
          have FR17_R5_2 := Lib.hid ((limR_firm _ _) _ _ _ _ _ FR17_R3_2.out hI.carry)
          have CR18_R5_0 := Lib.hid (hI.cell CR18_R3_0.out (fun _ h => by cases h))
          have CR18_R5_1 := Lib.hid (hI.cell CR18_R3_1.out (fun _ h => by cases h))
          have FR18_R5_0 := Lib.hid ((vecL_firm _ _) _ _ _ _ _ FR18_R3_0.out hI.carry)
          have FR18_R5_1 := Lib.hid ((limR_firm _ _) _ _ _ _ _ FR18_R3_1.out hI.carry)
          have FR18_R5_2 := Lib.hid ((limR_firm _ _) _ _ _ _ _ FR18_R3_2.out hI.carry)
          have FR29_R5_0 := Lib.hid ((limR_firm _ _) _ _ _ _ _ FR29_R3_0.out hI.carry)
          have FR210_R5_0 := Lib.hid ((limR_firm _ _) _ _ _ _ _ FR210_R3_0.out hI.carry)
          have FR211_R5_0 := Lib.hid ((limR_firm _ _) _ _ _ _ _ FR211_R3_0.out hI.carry)
          have FR212_R5_0 := Lib.hid ((limR_firm _ _) _ _ _ _ _ FR212_R3_0.out hI.carry)
          obtain ⟨pR513, rfl, hkR513, -⟩ := r4
          obtain ⟨qR513, uR513, hqR513, -, hcR513, hrR513⟩ := r6
          rw [hkR513] at hqR513
          injection hqR513 with hqR513
          subst hqR513
          have qfR513 := hrR513
          obtain ⟨svR513, AvR513, nvR513, cvR513, rfl, hsvR513⟩ := numG_open hrR513
          have FR513_R5_0 := Lib.hid ((numG_firm _ _) _ _ _ _ _ qfR513 hI.back)
          clear qfR513
          have FR513_R5_1 := Lib.hid (numG_sign FR513_R5_0.out)
          have CR513_R5_0 := Lib.hid (hcR513 0 _ rfl)
          have CR513_R5_1 := Lib.hid (hcR513 1 _ rfl)
          clear hcR513 hkR513
          obtain ⟨pR514, rfl, hkR514, -⟩ := r5
          obtain ⟨qR514, uR514, hqR514, -, hcR514, hrR514⟩ := r7
          rw [hkR514] at hqR514
          injection hqR514 with hqR514
          subst hqR514
          have qfR514 := hrR514
          obtain ⟨svR514, AvR514, nvR514, cvR514, rfl, hsvR514⟩ := numG_open hrR514
          have FR514_R5_0 := Lib.hid ((numG_firm _ _) _ _ _ _ _ qfR514 hI.back)
          clear qfR514
          have FR514_R5_1 := Lib.hid (numG_sign FR514_R5_0.out)
          have CR514_R5_0 := Lib.hid (hcR514 0 _ rfl)
          have CR514_R5_1 := Lib.hid (hcR514 1 _ rfl)
          clear hcR514 hkR514
          have hBR5 := hI.below
          have HCR5 := hI.next HCR3
          clear hI
          go_upto_region 6 with (fail)
          refine box_plan (c := ⟨w, wR5, (fun _ => none)⟩) HCR5 (by kernel_rfl) [[], [], [(55, 0), (56, 1)], [], [], [(58, 3), (59, 4)], [(57, 2), (60, 5)], [], [(15, 7), (61, 6)]] [(55, 0), (56, 1), (57, 2), (58, 3), (59, 4), (60, 5), (61, 6), (15, 7)] [
              (fun v _ _ => v = .agg #[.int .i64 svR513, .slice AvR513 nvR513 cvR513]),
              (fun v _ _ => v = .agg #[.int .i64 svR513, .slice AvR513 nvR513 cvR513]),
              NumG ((4 * 4 + 2) + (4 * 4 + 2)) (((xb - xa) * (yc - ya) - (yb - ya) * (xc - xa)) * ((xb - xa) * (yc - ya) - (yb - ya) * (xc - xa))),
              (fun v _ _ => v = .agg #[.int .i64 svR514, .slice AvR514 nvR514 cvR514]),
              (fun v _ _ => v = .agg #[.int .i64 svR514, .slice AvR514 nvR514 cvR514]),
              NumG ((4 * 4 + 2) + (4 * 4 + 2)) (((xb - xa) * (xc - xa) + (yb - ya) * (yc - ya)) * ((xb - xa) * (xc - xa) + (yb - ya) * (yc - ya))),
              NumG (max ((4 * 4 + 2) + (4 * 4 + 2)) ((4 * 4 + 2) + (4 * 4 + 2)) + 1) ((((xb - xa) * (yc - ya) - (yb - ya) * (xc - xa)) * ((xb - xa) * (yc - ya) - (yb - ya) * (xc - xa))) + (((xb - xa) * (xc - xa) + (yb - ya) * (yc - ya)) * ((xb - xa) * (xc - xa) + (yb - ya) * (yc - ya)))),
              PtrR 7 2,
              (fun _ g w => BoxR 7 (NumG (max ((4 * 4 + 2) + (4 * 4 + 2)) ((4 * 4 + 2) + (4 * 4 + 2)) + 1) ((((xb - xa) * (yc - ya) - (yb - ya) * (xc - xa)) * ((xb - xa) * (yc - ya) - (yb - ya) * (xc - xa))) + (((xb - xa) * (xc - xa) + (yb - ya) * (yc - ya)) * ((xb - xa) * (xc - xa) + (yb - ya) * (yc - ya))))) g w)
            ] (fun i => match i with | 7 => some 8 | _ => none) (by kernel_rfl) (by kernel_rfl) ⟨stab_eq, stab_eq, stab_firm (numG_firm _ _), stab_eq, stab_eq, stab_firm (numG_firm _ _), stab_firm (numG_firm _ _), stab_ptr, stab_box (numG_firm _ _) rfl, trivial⟩ ?steps ?fin
          case steps =>
            refine ⟨?_, ?_, ?_, ?_, ?_, ?_, ?_, ?_, ?_, trivial⟩
            · intro vs g w2 hI hF hR K hK
              simp only [Facts, fill, Act.put, z1, z2, z3, z4, z5, Nat.reduceAdd] at hF hR hK ⊢
              have k0 := hI.cell CR513_R5_0.out (fun _ h => by cases h)
              have k1 := hI.cell CR513_R5_1.out (fun _ h => by cases h)
              go_simp
              exact hK _ _ _ hI (Step.refl hI) rfl
            · intro vs g w2 hI hF hR K hK
              simp only [Facts, fill, Act.put, z1, z2, z3, z4, z5, Nat.reduceAdd] at hF hR hK ⊢
              have k0 := hI.cell CR513_R5_0.out (fun _ h => by cases h)
              have k1 := hI.cell CR513_R5_1.out (fun _ h => by cases h)
              go_simp
              exact hK _ _ _ hI (Step.refl hI) rfl
            · intro vs g w2 hI hF hR K hK
              simp only [Facts, fill, Act.put, z1, z2, z3, z4, z5, Nat.reduceAdd] at hF hR hK ⊢
              obtain ⟨r0, r1, -⟩ := hR
              generalize vs 0 = x0, vs 1 = x1 at *
              subst r0 r1
              go_simp
              refine (gMul hI ((numG_firm _ _) _ _ _ _ _ FR513_R5_0.out hI.keeps) ((numG_firm _ _) _ _ _ _ _ FR513_R5_0.out hI.keeps) (by decide) (by decide)).mono ?_
              rintro e w3 ⟨v3, rfl, hv, hb⟩
              exact hK _ _ _ (hI.call hb) (Step.call hI hb) hv
            · intro vs g w2 hI hF hR K hK
              simp only [Facts, fill, Act.put, z1, z2, z3, z4, z5, Nat.reduceAdd] at hF hR hK ⊢
              have k0 := hI.cell CR514_R5_0.out (fun _ h => by cases h)
              have k1 := hI.cell CR514_R5_1.out (fun _ h => by cases h)
              go_simp
              exact hK _ _ _ hI (Step.refl hI) rfl
            · intro vs g w2 hI hF hR K hK
              simp only [Facts, fill, Act.put, z1, z2, z3, z4, z5, Nat.reduceAdd] at hF hR hK ⊢
              have k0 := hI.cell CR514_R5_0.out (fun _ h => by cases h)
              have k1 := hI.cell CR514_R5_1.out (fun _ h => by cases h)
              go_simp
              exact hK _ _ _ hI (Step.refl hI) rfl
            · intro vs g w2 hI hF hR K hK
              simp only [Facts, fill, Act.put, z1, z2, z3, z4, z5, Nat.reduceAdd] at hF hR hK ⊢
              obtain ⟨r3, r4, -⟩ := hR
              generalize vs 3 = x3, vs 4 = x4 at *
              subst r3 r4
              go_simp
              refine (gMul hI ((numG_firm _ _) _ _ _ _ _ FR514_R5_0.out hI.keeps) ((numG_firm _ _) _ _ _ _ _ FR514_R5_0.out hI.keeps) (by decide) (by decide)).mono ?_
              rintro e w3 ⟨v3, rfl, hv, hb⟩
              exact hK _ _ _ (hI.call hb) (Step.call hI hb) hv
            · intro vs g w2 hI hF hR K hK
              simp only [Facts, fill, Act.put, z1, z2, z3, z4, z5, Nat.reduceAdd] at hF hR hK ⊢
              obtain ⟨r2, r5, -⟩ := hR
              generalize vs 2 = x2, vs 5 = x5 at *
              go_simp
              refine (gAdd hI r2 r5 (by decide) (by decide)).mono ?_
              rintro e w3 ⟨v3, rfl, hv, hb⟩
              exact hK _ _ _ (hI.call hb) (Step.call hI hb) hv
            · intro vs g w2 hI hF hR K hK
              simp only [Facts, fill, Act.put, z1, z2, z3, z4, z5, Nat.reduceAdd] at hF hR hK ⊢
              go_simp
              exact hK _ _ _ (hI.alloc _ (hF (by decide)) _) (Step.alloc hI (hF (by decide)) _) ⟨_, rfl, more_at _ _ _, box2' _ _ _ _⟩
            · intro vs g w2 hI hF hR K hK
              simp only [Facts, fill, Act.put, z1, z2, z3, z4, z5, Nat.reduceAdd] at hF hR hK ⊢
              obtain ⟨r7, r6, -⟩ := hR
              generalize vs 7 = x7, vs 6 = x6 at *
              obtain ⟨k, rfl, hk, hbx⟩ := r7
              have qx := r6
              obtain ⟨s8, A8, n8, c8, rfl, hs8⟩ := numG_open r6
              obtain ⟨⟨u0, k0⟩, f0⟩ := hbx 0 (by decide)
              obtain ⟨⟨u1, k1⟩, f1⟩ := hbx 1 (by decide)
              go_simp
              have ht := (((Touch.refl w2 k).set 0 (.int .i64 s8)).set 1 (.slice A8 n8 c8))
              exact hK undef _ _ (hI.store (by decide) hk ht) (Step.store hI rfl hk ht) ⟨k, .agg #[.int .i64 s8, .slice A8 n8 c8], hk, by rw [ht.size]; exact hI.lt _ _ hk, cells2 k0 k1 (.int .i64 s8) (.slice A8 n8 c8), ((numG_firm _ _) _ _ _ _ _ qx (ht.keeps hk))⟩
          case fin =>
            intro vs g wR6 hI hR
            have r7 := hR 7 (by decide)
            have r8 := hR 8 (by decide)
            simp only [fill, Act.put, z1, z2, z3, z4, z5] at r7 r8 ⊢
            clear hR
            generalize vs 7 = x7 at *
            generalize vs 8 = x8 at *
            have Ca_R6_0 := Lib.hid (hI.cell Ca_R5_0.out (fun _ h => by cases h))
            have Ca_R6_1 := Lib.hid (hI.cell Ca_R5_1.out (fun _ h => by cases h))
            have Cb_R6_0 := Lib.hid (hI.cell Cb_R5_0.out (fun _ h => by cases h))
            have Cb_R6_1 := Lib.hid (hI.cell Cb_R5_1.out (fun _ h => by cases h))
            have Cc_R6_0 := Lib.hid (hI.cell Cc_R5_0.out (fun _ h => by cases h))
            have Cc_R6_1 := Lib.hid (hI.cell Cc_R5_1.out (fun _ h => by cases h))
            have CR17_R6_0 := Lib.hid (hI.cell CR17_R5_0.out (fun _ h => by cases h))
            have CR17_R6_1 := Lib.hid (hI.cell CR17_R5_1.out (fun _ h => by cases h))
            have FR17_R6_0 := Lib.hid ((vecL_firm _ _) _ _ _ _ _ FR17_R5_0.out hI.carry)
            have FR17_R6_1 := Lib.hid ((limR_firm _ _) _ _ _ _ _ FR17_R5_1.out hI.carry)
            have FR17_R6_2 := Lib.hid ((limR_firm _ _) _ _ _ _ _ FR17_R5_2.out hI.carry)
            have CR18_R6_0 := Lib.hid (hI.cell CR18_R5_0.out (fun _ h => by cases h))
            have CR18_R6_1 := Lib.hid (hI.cell CR18_R5_1.out (fun _ h => by cases h))
            have FR18_R6_0 := Lib.hid ((vecL_firm _ _) _ _ _ _ _ FR18_R5_0.out hI.carry)
            have FR18_R6_1 := Lib.hid ((limR_firm _ _) _ _ _ _ _ FR18_R5_1.out hI.carry)
            have FR18_R6_2 := Lib.hid ((limR_firm _ _) _ _ _ _ _ FR18_R5_2.out hI.carry)
            have FR29_R6_0 := Lib.hid ((limR_firm _ _) _ _ _ _ _ FR29_R5_0.out hI.carry)
            have FR210_R6_0 := Lib.hid ((limR_firm _ _) _ _ _ _ _ FR210_R5_0.out hI.carry)
            have FR211_R6_0 := Lib.hid ((limR_firm _ _) _ _ _ _ _ FR211_R5_0.out hI.carry)
            have FR212_R6_0 := Lib.hid ((limR_firm _ _) _ _ _ _ _ FR212_R5_0.out hI.carry)
            have CR513_R6_0 := Lib.hid (hI.cell CR513_R5_0.out (fun _ h => by cases h))
            have CR513_R6_1 := Lib.hid (hI.cell CR513_R5_1.out (fun _ h => by cases h))
            have FR513_R6_0 := Lib.hid ((numG_firm _ _) _ _ _ _ _ FR513_R5_0.out hI.carry)
            have FR513_R6_1 := Lib.hid ((signR_firm _) _ _ _ _ _ FR513_R5_1.out hI.carry)
            have CR514_R6_0 := Lib.hid (hI.cell CR514_R5_0.out (fun _ h => by cases h))
            have CR514_R6_1 := Lib.hid (hI.cell CR514_R5_1.out (fun _ h => by cases h))
            have FR514_R6_0 := Lib.hid ((numG_firm _ _) _ _ _ _ _ FR514_R5_0.out hI.carry)
            have FR514_R6_1 := Lib.hid ((signR_firm _) _ _ _ _ _ FR514_R5_1.out hI.carry)
            obtain ⟨pR615, rfl, hkR615, -⟩ := r7
            obtain ⟨qR615, uR615, hqR615, -, hcR615, hrR615⟩ := r8
            rw [hkR615] at hqR615
            injection hqR615 with hqR615
            subst hqR615
            have qfR615 := hrR615
            obtain ⟨svR615, AvR615, nvR615, cvR615, rfl, hsvR615⟩ := numG_open hrR615
            have FR615_R6_0 := Lib.hid ((numG_firm _ _) _ _ _ _ _ qfR615 hI.back)
            clear qfR615
            have FR615_R6_1 := Lib.hid (numG_sign FR615_R6_0.out)
            have CR615_R6_0 := Lib.hid (hcR615 0 _ rfl)
            have CR615_R6_1 := Lib.hid (hcR615 1 _ rfl)
            clear hcR615 hkR615
            have hBR6 := hI.below
            have HCR6 := hI.next HCR5
            clear hI
            go_upto_region 7 with (fail)
            refine box_plan0 (c := ⟨w, wR6, (fun _ => none)⟩) HCR6 [[], [(62, 0)], [], [(64, 2)], [(63, 1), (65, 3)], [], [(16, 5), (66, 4)]] [(62, 0), (63, 1), (64, 2), (65, 3), (66, 4), (16, 5)] [
                (fun v _ _ => v = .slice AvR211 4 cvR211),
                NumG (4 * 4 + 2) ((xb - xa) * (xb - xa) + (yb - ya) * (yb - ya)),
                (fun v _ _ => v = .slice AvR212 4 cvR212),
                NumG (4 * 4 + 2) ((xc - xa) * (xc - xa) + (yc - ya) * (yc - ya)),
                NumG ((4 * 4 + 2) + (4 * 4 + 2)) (((xb - xa) * (xb - xa) + (yb - ya) * (yb - ya)) * ((xc - xa) * (xc - xa) + (yc - ya) * (yc - ya))),
                PtrR 5 2,
                (fun _ g w => BoxR 5 (NumG ((4 * 4 + 2) + (4 * 4 + 2)) (((xb - xa) * (xb - xa) + (yb - ya) * (yb - ya)) * ((xc - xa) * (xc - xa) + (yc - ya) * (yc - ya)))) g w)
              ] (fun i => match i with | 5 => some 6 | _ => none) (by kernel_rfl) (by kernel_rfl) ⟨stab_eq, stab_firm (numG_firm _ _), stab_eq, stab_firm (numG_firm _ _), stab_firm (numG_firm _ _), stab_ptr, stab_box (numG_firm _ _) rfl, trivial⟩ ?steps ?fin
            case steps =>
              refine ⟨?_, ?_, ?_, ?_, ?_, ?_, ?_, trivial⟩
              · intro vs g w2 hI hF hR K hK
                simp only [Facts, fill, Act.put, z1, z2, z3, z4, z5, Nat.reduceAdd] at hF hR hK ⊢
                go_simp
                exact hK _ _ _ hI (Step.refl hI) rfl
              · intro vs g w2 hI hF hR K hK
                simp only [Facts, fill, Act.put, z1, z2, z3, z4, z5, Nat.reduceAdd] at hF hR hK ⊢
                obtain ⟨r0, -⟩ := hR
                generalize vs 0 = x0 at *
                subst r0
                go_simp
                refine (gValueF hI ((limR_firm _ _) _ _ _ _ _ FR211_R6_0.out hI.keeps) (by decide) (by first | (refine fit4_sub ?_ ?_ ?_ ?_ <;> repeat first | exact S.diff (by first | assumption | (unfold S; decide)) (by first | assumption | (unfold S; decide)) | apply Fit.neg) | (refine fit4_add ?_ ?_ ?_ ?_ <;> repeat first | exact S.diff (by first | assumption | (unfold S; decide)) (by first | assumption | (unfold S; decide)) | apply Fit.neg))).mono ?_
                rintro e w3 ⟨v3, rfl, hv, hb⟩
                exact hK _ _ _ (hI.call hb) (Step.call hI hb) hv
              · intro vs g w2 hI hF hR K hK
                simp only [Facts, fill, Act.put, z1, z2, z3, z4, z5, Nat.reduceAdd] at hF hR hK ⊢
                go_simp
                exact hK _ _ _ hI (Step.refl hI) rfl
              · intro vs g w2 hI hF hR K hK
                simp only [Facts, fill, Act.put, z1, z2, z3, z4, z5, Nat.reduceAdd] at hF hR hK ⊢
                obtain ⟨r2, -⟩ := hR
                generalize vs 2 = x2 at *
                subst r2
                go_simp
                refine (gValueF hI ((limR_firm _ _) _ _ _ _ _ FR212_R6_0.out hI.keeps) (by decide) (by first | (refine fit4_sub ?_ ?_ ?_ ?_ <;> repeat first | exact S.diff (by first | assumption | (unfold S; decide)) (by first | assumption | (unfold S; decide)) | apply Fit.neg) | (refine fit4_add ?_ ?_ ?_ ?_ <;> repeat first | exact S.diff (by first | assumption | (unfold S; decide)) (by first | assumption | (unfold S; decide)) | apply Fit.neg))).mono ?_
                rintro e w3 ⟨v3, rfl, hv, hb⟩
                exact hK _ _ _ (hI.call hb) (Step.call hI hb) hv
              · intro vs g w2 hI hF hR K hK
                simp only [Facts, fill, Act.put, z1, z2, z3, z4, z5, Nat.reduceAdd] at hF hR hK ⊢
                obtain ⟨r1, r3, -⟩ := hR
                generalize vs 1 = x1, vs 3 = x3 at *
                go_simp
                refine (gMul hI r1 r3 (by decide) (by decide)).mono ?_
                rintro e w3 ⟨v3, rfl, hv, hb⟩
                exact hK _ _ _ (hI.call hb) (Step.call hI hb) hv
              · intro vs g w2 hI hF hR K hK
                simp only [Facts, fill, Act.put, z1, z2, z3, z4, z5, Nat.reduceAdd] at hF hR hK ⊢
                go_simp
                exact hK _ _ _ (hI.alloc _ (hF (by decide)) _) (Step.alloc hI (hF (by decide)) _) ⟨_, rfl, more_at _ _ _, box2' _ _ _ _⟩
              · intro vs g w2 hI hF hR K hK
                simp only [Facts, fill, Act.put, z1, z2, z3, z4, z5, Nat.reduceAdd] at hF hR hK ⊢
                obtain ⟨r5, r4, -⟩ := hR
                generalize vs 5 = x5, vs 4 = x4 at *
                obtain ⟨k, rfl, hk, hbx⟩ := r5
                have qx := r4
                obtain ⟨s6, A6, n6, c6, rfl, hs6⟩ := numG_open r4
                obtain ⟨⟨u0, k0⟩, f0⟩ := hbx 0 (by decide)
                obtain ⟨⟨u1, k1⟩, f1⟩ := hbx 1 (by decide)
                go_simp
                have ht := (((Touch.refl w2 k).set 0 (.int .i64 s6)).set 1 (.slice A6 n6 c6))
                exact hK undef _ _ (hI.store (by decide) hk ht) (Step.store hI rfl hk ht) ⟨k, .agg #[.int .i64 s6, .slice A6 n6 c6], hk, by rw [ht.size]; exact hI.lt _ _ hk, cells2 k0 k1 (.int .i64 s6) (.slice A6 n6 c6), ((numG_firm _ _) _ _ _ _ _ qx (ht.keeps hk))⟩
            case fin =>
              intro vs g wR7 hI hR
              have r5 := hR 5 (by decide)
              have r6 := hR 6 (by decide)
              simp only [fill, Act.put, z1, z2, z3, z4, z5] at r5 r6 ⊢
              clear hR
              generalize vs 5 = x5 at *
              generalize vs 6 = x6 at *
              have Ca_R7_0 := Lib.hid (hI.cell Ca_R6_0.out (fun _ h => by cases h))
              have Ca_R7_1 := Lib.hid (hI.cell Ca_R6_1.out (fun _ h => by cases h))
              have Cb_R7_0 := Lib.hid (hI.cell Cb_R6_0.out (fun _ h => by cases h))
              have Cb_R7_1 := Lib.hid (hI.cell Cb_R6_1.out (fun _ h => by cases h))
              have Cc_R7_0 := Lib.hid (hI.cell Cc_R6_0.out (fun _ h => by cases h))
              have Cc_R7_1 := Lib.hid (hI.cell Cc_R6_1.out (fun _ h => by cases h))
              have CR17_R7_0 := Lib.hid (hI.cell CR17_R6_0.out (fun _ h => by cases h))
              have CR17_R7_1 := Lib.hid (hI.cell CR17_R6_1.out (fun _ h => by cases h))
              have FR17_R7_0 := Lib.hid ((vecL_firm _ _) _ _ _ _ _ FR17_R6_0.out hI.carry)
              have FR17_R7_1 := Lib.hid ((limR_firm _ _) _ _ _ _ _ FR17_R6_1.out hI.carry)
              have FR17_R7_2 := Lib.hid ((limR_firm _ _) _ _ _ _ _ FR17_R6_2.out hI.carry)
              have CR18_R7_0 := Lib.hid (hI.cell CR18_R6_0.out (fun _ h => by cases h))
              have CR18_R7_1 := Lib.hid (hI.cell CR18_R6_1.out (fun _ h => by cases h))
              have FR18_R7_0 := Lib.hid ((vecL_firm _ _) _ _ _ _ _ FR18_R6_0.out hI.carry)
              have FR18_R7_1 := Lib.hid ((limR_firm _ _) _ _ _ _ _ FR18_R6_1.out hI.carry)
              have FR18_R7_2 := Lib.hid ((limR_firm _ _) _ _ _ _ _ FR18_R6_2.out hI.carry)
              have FR29_R7_0 := Lib.hid ((limR_firm _ _) _ _ _ _ _ FR29_R6_0.out hI.carry)
              have FR210_R7_0 := Lib.hid ((limR_firm _ _) _ _ _ _ _ FR210_R6_0.out hI.carry)
              have FR211_R7_0 := Lib.hid ((limR_firm _ _) _ _ _ _ _ FR211_R6_0.out hI.carry)
              have FR212_R7_0 := Lib.hid ((limR_firm _ _) _ _ _ _ _ FR212_R6_0.out hI.carry)
              have CR513_R7_0 := Lib.hid (hI.cell CR513_R6_0.out (fun _ h => by cases h))
              have CR513_R7_1 := Lib.hid (hI.cell CR513_R6_1.out (fun _ h => by cases h))
              have FR513_R7_0 := Lib.hid ((numG_firm _ _) _ _ _ _ _ FR513_R6_0.out hI.carry)
              have FR513_R7_1 := Lib.hid ((signR_firm _) _ _ _ _ _ FR513_R6_1.out hI.carry)
              have CR514_R7_0 := Lib.hid (hI.cell CR514_R6_0.out (fun _ h => by cases h))
              have CR514_R7_1 := Lib.hid (hI.cell CR514_R6_1.out (fun _ h => by cases h))
              have FR514_R7_0 := Lib.hid ((numG_firm _ _) _ _ _ _ _ FR514_R6_0.out hI.carry)
              have FR514_R7_1 := Lib.hid ((signR_firm _) _ _ _ _ _ FR514_R6_1.out hI.carry)
              have CR615_R7_0 := Lib.hid (hI.cell CR615_R6_0.out (fun _ h => by cases h))
              have CR615_R7_1 := Lib.hid (hI.cell CR615_R6_1.out (fun _ h => by cases h))
              have FR615_R7_0 := Lib.hid ((numG_firm _ _) _ _ _ _ _ FR615_R6_0.out hI.carry)
              have FR615_R7_1 := Lib.hid ((signR_firm _) _ _ _ _ _ FR615_R6_1.out hI.carry)
              obtain ⟨pR716, rfl, hkR716, -⟩ := r5
              obtain ⟨qR716, uR716, hqR716, -, hcR716, hrR716⟩ := r6
              rw [hkR716] at hqR716
              injection hqR716 with hqR716
              subst hqR716
              have qfR716 := hrR716
              obtain ⟨svR716, AvR716, nvR716, cvR716, rfl, hsvR716⟩ := numG_open hrR716
              have FR716_R7_0 := Lib.hid ((numG_firm _ _) _ _ _ _ _ qfR716 hI.back)
              clear qfR716
              have FR716_R7_1 := Lib.hid (numG_sign FR716_R7_0.out)
              have CR716_R7_0 := Lib.hid (hcR716 0 _ rfl)
              have CR716_R7_1 := Lib.hid (hcR716 1 _ rfl)
              clear hcR716 hkR716
              have hBR7 := hI.below
              have HCR7 := hI.next HCR6
              clear hI
              go_upto_region 8 with (fail)
              refine box_plan0 (c := ⟨w, wR7, (fun _ => none)⟩) HCR7 [[], [(67, 0)], [(68, 1)], [(68, 1)], [(68, 1), (69, 2), (70, 3)], [(68, 1), (71, 4)], [(68, 1), (72, 5)], [(68, 1), (73, 6)], [(74, 7)]] [(67, 0), (68, 1), (69, 2), (70, 3), (71, 4), (72, 5), (73, 6), (74, 7), (6, 8)] [
                  (fun v _ _ => v = .bool true),
                  (fun v _ _ => v = .bool true),
                  (fun v _ _ => v = .agg #[.int .i64 svR615, .slice AvR615 nvR615 cvR615]),
                  (fun v _ _ => v = .agg #[.int .i64 svR716, .slice AvR716 nvR716 cvR716]),
                  NumG (max (max ((4 * 4 + 2) + (4 * 4 + 2)) ((4 * 4 + 2) + (4 * 4 + 2)) + 1) ((4 * 4 + 2) + (4 * 4 + 2)) + 1) (((((xb - xa) * (yc - ya) - (yb - ya) * (xc - xa)) * ((xb - xa) * (yc - ya) - (yb - ya) * (xc - xa))) + (((xb - xa) * (xc - xa) + (yb - ya) * (yc - ya)) * ((xb - xa) * (xc - xa) + (yb - ya) * (yc - ya)))) - (((xb - xa) * (xb - xa) + (yb - ya) * (yb - ya)) * ((xc - xa) * (xc - xa) + (yc - ya) * (yc - ya)))),
                  SignR (((((xb - xa) * (yc - ya) - (yb - ya) * (xc - xa)) * ((xb - xa) * (yc - ya) - (yb - ya) * (xc - xa))) + (((xb - xa) * (xc - xa) + (yb - ya) * (yc - ya)) * ((xb - xa) * (xc - xa) + (yb - ya) * (yc - ya)))) - (((xb - xa) * (xb - xa) + (yb - ya) * (yb - ya)) * ((xc - xa) * (xc - xa) + (yc - ya) * (yc - ya)))),
                  (fun v _ _ => v = .bool true),
                  (fun v _ _ => v = .bool true),
                  (fun v _ _ => v = .bool true)
                ] (fun _ => none) (by kernel_rfl) (by kernel_rfl) ⟨stab_eq, stab_eq, stab_eq, stab_eq, stab_firm (numG_firm _ _), stab_firm (signR_firm _), stab_eq, stab_eq, stab_eq, trivial⟩ ?steps ?fin
              case steps =>
                refine ⟨?_, ?_, ?_, ?_, ?_, ?_, ?_, ?_, ?_, trivial⟩
                · intro vs g w2 hI hF hR K hK
                  simp only [Facts, fill, Act.put, z1, z2, z3, z4, z5, Nat.reduceAdd] at hF hR hK ⊢
                  go_simp
                  refine (gAlive5 hI hw).mono ?_
                  rintro e w3 ⟨v3, rfl, hv, hb⟩
                  exact hK _ _ _ (hI.call hb) (Step.call hI hb) hv
                · intro vs g w2 hI hF hR K hK
                  simp only [Facts, fill, Act.put, z1, z2, z3, z4, z5, Nat.reduceAdd] at hF hR hK ⊢
                  obtain ⟨r0, -⟩ := hR
                  generalize vs 0 = x0 at *
                  subst r0
                  go_simp
                  exact hK _ _ _ hI (Step.refl hI) rfl
                · intro vs g w2 hI hF hR K hK
                  simp only [Facts, fill, Act.put, z1, z2, z3, z4, z5, Nat.reduceAdd] at hF hR hK ⊢
                  obtain ⟨r1, -⟩ := hR
                  generalize vs 1 = x1 at *
                  subst r1
                  have k0 := hI.cell CR615_R7_0.out (fun _ h => by cases h)
                  have k1 := hI.cell CR615_R7_1.out (fun _ h => by cases h)
                  go_simp
                  exact hK _ _ _ hI (Step.refl hI) rfl
                · intro vs g w2 hI hF hR K hK
                  simp only [Facts, fill, Act.put, z1, z2, z3, z4, z5, Nat.reduceAdd] at hF hR hK ⊢
                  obtain ⟨r1, -⟩ := hR
                  generalize vs 1 = x1 at *
                  subst r1
                  have k0 := hI.cell CR716_R7_0.out (fun _ h => by cases h)
                  have k1 := hI.cell CR716_R7_1.out (fun _ h => by cases h)
                  go_simp
                  exact hK _ _ _ hI (Step.refl hI) rfl
                · intro vs g w2 hI hF hR K hK
                  simp only [Facts, fill, Act.put, z1, z2, z3, z4, z5, Nat.reduceAdd] at hF hR hK ⊢
                  obtain ⟨r1, r2, r3, -⟩ := hR
                  generalize vs 1 = x1, vs 2 = x2, vs 3 = x3 at *
                  subst r1 r2 r3
                  go_simp
                  refine (gSub hI ((numG_firm _ _) _ _ _ _ _ FR615_R7_0.out hI.keeps) ((numG_firm _ _) _ _ _ _ _ FR716_R7_0.out hI.keeps) (by decide) (by decide)).mono ?_
                  rintro e w3 ⟨v3, rfl, hv, hb⟩
                  exact hK _ _ _ (hI.call hb) (Step.call hI hb) hv
                · intro vs g w2 hI hF hR K hK
                  simp only [Facts, fill, Act.put, z1, z2, z3, z4, z5, Nat.reduceAdd] at hF hR hK ⊢
                  obtain ⟨r1, r4, -⟩ := hR
                  generalize vs 1 = x1, vs 4 = x4 at *
                  subst r1
                  obtain ⟨s5, A5, n5, c5, rfl, hs5⟩ := numG_open r4
                  go_simp
                  exact hK _ _ _ hI (Step.refl hI) hs5
                · intro vs g w2 hI hF hR K hK
                  simp only [Facts, fill, Act.put, z1, z2, z3, z4, z5, Nat.reduceAdd] at hF hR hK ⊢
                  obtain ⟨r1, r5, -⟩ := hR
                  generalize vs 1 = x1, vs 5 = x5 at *
                  subst r1
                  obtain ⟨s6, rfl, hs6⟩ := r5
                  have hz := sign_is (x := ((((xb - xa) * (yc - ya) - (yb - ya) * (xc - xa)) * ((xb - xa) * (yc - ya) - (yb - ya) * (xc - xa))) + (((xb - xa) * (xc - xa) + (yb - ya) * (yc - ya)) * ((xb - xa) * (xc - xa) + (yb - ya) * (yc - ya)))) - (((xb - xa) * (xb - xa) + (yb - ya) * (yb - ya)) * ((xc - xa) * (xc - xa) + (yc - ya) * (yc - ya)))) (k := 0) ⟨s6, rfl, hs6⟩ (by rw [Int.sign_eq_zero_iff_zero]; grind)
                  clear hs6
                  go_simp
                  exact hK _ _ _ hI (Step.refl hI) rfl
                · intro vs g w2 hI hF hR K hK
                  simp only [Facts, fill, Act.put, z1, z2, z3, z4, z5, Nat.reduceAdd] at hF hR hK ⊢
                  obtain ⟨r1, r6, -⟩ := hR
                  generalize vs 1 = x1, vs 6 = x6 at *
                  subst r1 r6
                  go_simp
                  exact hK _ _ _ hI (Step.refl hI) rfl
                · intro vs g w2 hI hF hR K hK
                  simp only [Facts, fill, Act.put, z1, z2, z3, z4, z5, Nat.reduceAdd] at hF hR hK ⊢
                  obtain ⟨r7, -⟩ := hR
                  generalize vs 7 = x7 at *
                  subst r7
                  go_simp
                  exact hK _ _ _ hI (Step.refl hI) rfl
              case fin =>
                intro vs g wR8 hI hR
                have r8 := hR 8 (by decide)
                simp only [fill, Act.put, z1, z2, z3, z4, z5] at r8 ⊢
                clear hR
                generalize vs 8 = x8 at *
                have Ca_R8_0 := Lib.hid (hI.cell Ca_R7_0.out (fun _ h => by cases h))
                have Ca_R8_1 := Lib.hid (hI.cell Ca_R7_1.out (fun _ h => by cases h))
                have Cb_R8_0 := Lib.hid (hI.cell Cb_R7_0.out (fun _ h => by cases h))
                have Cb_R8_1 := Lib.hid (hI.cell Cb_R7_1.out (fun _ h => by cases h))
                have Cc_R8_0 := Lib.hid (hI.cell Cc_R7_0.out (fun _ h => by cases h))
                have Cc_R8_1 := Lib.hid (hI.cell Cc_R7_1.out (fun _ h => by cases h))
                have CR17_R8_0 := Lib.hid (hI.cell CR17_R7_0.out (fun _ h => by cases h))
                have CR17_R8_1 := Lib.hid (hI.cell CR17_R7_1.out (fun _ h => by cases h))
                have FR17_R8_0 := Lib.hid ((vecL_firm _ _) _ _ _ _ _ FR17_R7_0.out hI.carry)
                have FR17_R8_1 := Lib.hid ((limR_firm _ _) _ _ _ _ _ FR17_R7_1.out hI.carry)
                have FR17_R8_2 := Lib.hid ((limR_firm _ _) _ _ _ _ _ FR17_R7_2.out hI.carry)
                have CR18_R8_0 := Lib.hid (hI.cell CR18_R7_0.out (fun _ h => by cases h))
                have CR18_R8_1 := Lib.hid (hI.cell CR18_R7_1.out (fun _ h => by cases h))
                have FR18_R8_0 := Lib.hid ((vecL_firm _ _) _ _ _ _ _ FR18_R7_0.out hI.carry)
                have FR18_R8_1 := Lib.hid ((limR_firm _ _) _ _ _ _ _ FR18_R7_1.out hI.carry)
                have FR18_R8_2 := Lib.hid ((limR_firm _ _) _ _ _ _ _ FR18_R7_2.out hI.carry)
                have FR29_R8_0 := Lib.hid ((limR_firm _ _) _ _ _ _ _ FR29_R7_0.out hI.carry)
                have FR210_R8_0 := Lib.hid ((limR_firm _ _) _ _ _ _ _ FR210_R7_0.out hI.carry)
                have FR211_R8_0 := Lib.hid ((limR_firm _ _) _ _ _ _ _ FR211_R7_0.out hI.carry)
                have FR212_R8_0 := Lib.hid ((limR_firm _ _) _ _ _ _ _ FR212_R7_0.out hI.carry)
                have CR513_R8_0 := Lib.hid (hI.cell CR513_R7_0.out (fun _ h => by cases h))
                have CR513_R8_1 := Lib.hid (hI.cell CR513_R7_1.out (fun _ h => by cases h))
                have FR513_R8_0 := Lib.hid ((numG_firm _ _) _ _ _ _ _ FR513_R7_0.out hI.carry)
                have FR513_R8_1 := Lib.hid ((signR_firm _) _ _ _ _ _ FR513_R7_1.out hI.carry)
                have CR514_R8_0 := Lib.hid (hI.cell CR514_R7_0.out (fun _ h => by cases h))
                have CR514_R8_1 := Lib.hid (hI.cell CR514_R7_1.out (fun _ h => by cases h))
                have FR514_R8_0 := Lib.hid ((numG_firm _ _) _ _ _ _ _ FR514_R7_0.out hI.carry)
                have FR514_R8_1 := Lib.hid ((signR_firm _) _ _ _ _ _ FR514_R7_1.out hI.carry)
                have CR615_R8_0 := Lib.hid (hI.cell CR615_R7_0.out (fun _ h => by cases h))
                have CR615_R8_1 := Lib.hid (hI.cell CR615_R7_1.out (fun _ h => by cases h))
                have FR615_R8_0 := Lib.hid ((numG_firm _ _) _ _ _ _ _ FR615_R7_0.out hI.carry)
                have FR615_R8_1 := Lib.hid ((signR_firm _) _ _ _ _ _ FR615_R7_1.out hI.carry)
                have CR716_R8_0 := Lib.hid (hI.cell CR716_R7_0.out (fun _ h => by cases h))
                have CR716_R8_1 := Lib.hid (hI.cell CR716_R7_1.out (fun _ h => by cases h))
                have FR716_R8_0 := Lib.hid ((numG_firm _ _) _ _ _ _ _ FR716_R7_0.out hI.carry)
                have FR716_R8_1 := Lib.hid ((signR_firm _) _ _ _ _ _ FR716_R7_1.out hI.carry)
                subst r8
                have hBR8 := hI.below
                have HCR8 := hI.next HCR7
                clear hI
                go_wp2
                go_ret
                exact ⟨rfl, hBR8⟩
end Go.Proofs.YtdcckjpeibnkbaaDoor
