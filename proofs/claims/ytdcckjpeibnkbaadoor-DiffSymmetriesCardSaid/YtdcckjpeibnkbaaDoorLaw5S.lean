/-
  Law DiffSymmetries. (Written by law5.py.)
-/
import Derived.Test.YtdcckjpeibnkbaaDoorGen5b
namespace Go.Proofs.YtdcckjpeibnkbaaDoor
open Go.RowKit
set_option linter.unusedSimpArgs false
set_option linter.unusedVariables false

set_option maxRecDepth 100000 in
set_option maxHeartbeats 4000000 in
theorem law_diffSymmetries (xa ya xb yb xc yc : Int) (w : World) (hw : Wts w) (sxa : S xa) (sya : S ya) (sxb : S xb) (syb : S yb) (sxc : S xc) (syc : S yc) :
    Calls Tryd.prog 6 #[.agg #[.int .i64 xa, .int .i64 ya], .agg #[.int .i64 xb, .int .i64 yb], .agg #[.int .i64 xc, .int .i64 yc]] w fun e w' => e = .returned (.bool true) ∧ Below w.heap.size w w' := by
  obtain ⟨W, hW⟩ : ∃ W, W = ((w.alloc (.cells #[.int .i64 xa, .int .i64 ya] 23)).alloc (.cells #[.int .i64 xb, .int .i64 yb] 23)).alloc (.cells #[.int .i64 xc, .int .i64 yc] 23) := ⟨_, rfl⟩
  have hb0 : Below w.heap.size w W := by rw [hW]; exact ((((Below.refl _ _).alloc (Nat.le_refl _) _).alloc (by simp) _).alloc (by simp; omega) _)
  have Ca_W_0 := Lib.hid (show W.cell? ⟨w.heap.size, 0, none⟩ = some (.int .i64 xa) by rw [hW]; simp [go_sem])
  have Ca_W_1 := Lib.hid (show W.cell? ⟨w.heap.size, 1, none⟩ = some (.int .i64 ya) by rw [hW]; simp [go_sem])
  have Cb_W_0 := Lib.hid (show W.cell? ⟨w.heap.size + 1, 0, none⟩ = some (.int .i64 xb) by rw [hW]; simp [go_sem])
  have Cb_W_1 := Lib.hid (show W.cell? ⟨w.heap.size + 1, 1, none⟩ = some (.int .i64 yb) by rw [hW]; simp [go_sem])
  have Cc_W_0 := Lib.hid (show W.cell? ⟨w.heap.size + 1 + 1, 0, none⟩ = some (.int .i64 xc) by rw [hW]; simp [go_sem])
  have Cc_W_1 := Lib.hid (show W.cell? ⟨w.heap.size + 1 + 1, 1, none⟩ = some (.int .i64 yc) by rw [hW]; simp [go_sem])
  have HW := Lib.hid hW
  clear hW
  go_enter Tryd.func6, Tryd.ntmps6
  go_upto_region 1 with (fail)
  rw [← HW.out]
  refine box_plan (c := ⟨w, W, (fun _ => none)⟩) (Ctx.ok_none hb0) (by kernel_rfl) [[], [], [(13, 0), (14, 1)], [], [], [(16, 3), (17, 4)], [], [], [(7, 6), (15, 2)], [(8, 7), (18, 5)]] [(13, 0), (14, 1), (15, 2), (16, 3), (17, 4), (18, 5), (7, 6), (8, 7)] [
      (fun v _ _ => v = .agg #[.int .i64 xa, .int .i64 ya]),
      (fun v _ _ => v = .agg #[.int .i64 xb, .int .i64 yb]),
      VecL (xb - xa) (yb - ya),
      (fun v _ _ => v = .agg #[.int .i64 xa, .int .i64 ya]),
      (fun v _ _ => v = .agg #[.int .i64 xc, .int .i64 yc]),
      VecL (xc - xa) (yc - ya),
      PtrR 6 2,
      PtrR 7 2,
      (fun _ g w => BoxR 6 (VecL (xb - xa) (yb - ya)) g w),
      (fun _ g w => BoxR 7 (VecL (xc - xa) (yc - ya)) g w)
    ] (fun i => match i with | 6 => some 8 | 7 => some 9 | _ => none) (by kernel_rfl) (by kernel_rfl) ⟨stab_eq, stab_eq, stab_firm (vecL_firm _ _), stab_eq, stab_eq, stab_firm (vecL_firm _ _), stab_ptr, stab_ptr, stab_box (vecL_firm _ _) rfl, stab_box (vecL_firm _ _) rfl, trivial⟩ ?steps ?fin
  case steps =>
    refine ⟨?_, ?_, ?_, ?_, ?_, ?_, ?_, ?_, ?_, ?_, trivial⟩
    · intro vs g w2 hI hF hR K hK
      simp only [Facts, fill, Act.put, z1, z2, z3, z4, z5, Nat.reduceAdd] at hF hR hK ⊢
      have k0 := hI.cell Ca_W_0.out (fun _ h => by cases h)
      have k1 := hI.cell Ca_W_1.out (fun _ h => by cases h)
      go_simp
      exact hK _ _ _ hI (Step.refl hI) rfl
    · intro vs g w2 hI hF hR K hK
      simp only [Facts, fill, Act.put, z1, z2, z3, z4, z5, Nat.reduceAdd] at hF hR hK ⊢
      have k0 := hI.cell Cb_W_0.out (fun _ h => by cases h)
      have k1 := hI.cell Cb_W_1.out (fun _ h => by cases h)
      go_simp
      exact hK _ _ _ hI (Step.refl hI) rfl
    · intro vs g w2 hI hF hR K hK
      simp only [Facts, fill, Act.put, z1, z2, z3, z4, z5, Nat.reduceAdd] at hF hR hK ⊢
      obtain ⟨r0, r1, -⟩ := hR
      generalize vs 0 = x0, vs 1 = x1 at *
      subst r0 r1
      go_simp
      refine (gBetween hI hw (by first | assumption | (unfold S; decide)) (by first | assumption | (unfold S; decide)) (by first | assumption | (unfold S; decide)) (by first | assumption | (unfold S; decide))).mono ?_
      rintro e w3 ⟨v3, rfl, hv, hb⟩
      exact hK _ _ _ (hI.call hb) (Step.call hI hb) hv
    · intro vs g w2 hI hF hR K hK
      simp only [Facts, fill, Act.put, z1, z2, z3, z4, z5, Nat.reduceAdd] at hF hR hK ⊢
      have k0 := hI.cell Ca_W_0.out (fun _ h => by cases h)
      have k1 := hI.cell Ca_W_1.out (fun _ h => by cases h)
      go_simp
      exact hK _ _ _ hI (Step.refl hI) rfl
    · intro vs g w2 hI hF hR K hK
      simp only [Facts, fill, Act.put, z1, z2, z3, z4, z5, Nat.reduceAdd] at hF hR hK ⊢
      have k0 := hI.cell Cc_W_0.out (fun _ h => by cases h)
      have k1 := hI.cell Cc_W_1.out (fun _ h => by cases h)
      go_simp
      exact hK _ _ _ hI (Step.refl hI) rfl
    · intro vs g w2 hI hF hR K hK
      simp only [Facts, fill, Act.put, z1, z2, z3, z4, z5, Nat.reduceAdd] at hF hR hK ⊢
      obtain ⟨r3, r4, -⟩ := hR
      generalize vs 3 = x3, vs 4 = x4 at *
      subst r3 r4
      go_simp
      refine (gBetween hI hw (by first | assumption | (unfold S; decide)) (by first | assumption | (unfold S; decide)) (by first | assumption | (unfold S; decide)) (by first | assumption | (unfold S; decide))).mono ?_
      rintro e w3 ⟨v3, rfl, hv, hb⟩
      exact hK _ _ _ (hI.call hb) (Step.call hI hb) hv
    · intro vs g w2 hI hF hR K hK
      simp only [Facts, fill, Act.put, z1, z2, z3, z4, z5, Nat.reduceAdd] at hF hR hK ⊢
      go_simp
      exact hK _ _ _ (hI.alloc _ (hF (by decide)) _) (Step.alloc hI (hF (by decide)) _) ⟨_, rfl, more_at _ _ _, box2' _ _ _ _⟩
    · intro vs g w2 hI hF hR K hK
      simp only [Facts, fill, Act.put, z1, z2, z3, z4, z5, Nat.reduceAdd] at hF hR hK ⊢
      go_simp
      exact hK _ _ _ (hI.alloc _ (hF (by decide)) _) (Step.alloc hI (hF (by decide)) _) ⟨_, rfl, more_at _ _ _, box2' _ _ _ _⟩
    · intro vs g w2 hI hF hR K hK
      simp only [Facts, fill, Act.put, z1, z2, z3, z4, z5, Nat.reduceAdd] at hF hR hK ⊢
      obtain ⟨r6, r2, -⟩ := hR
      generalize vs 6 = x6, vs 2 = x2 at *
      obtain ⟨k, rfl, hk, hbx⟩ := r6
      have qx := r2
      obtain ⟨A8, c8, B8, d8, rfl⟩ := vecL_open r2
      obtain ⟨⟨u0, k0⟩, f0⟩ := hbx 0 (by decide)
      obtain ⟨⟨u1, k1⟩, f1⟩ := hbx 1 (by decide)
      go_simp
      have ht := (((Touch.refl w2 k).set 0 (.slice A8 2 c8)).set 1 (.slice B8 2 d8))
      exact hK undef _ _ (hI.store (by decide) hk ht) (Step.store hI rfl hk ht) ⟨k, .agg #[.slice A8 2 c8, .slice B8 2 d8], hk, by rw [ht.size]; exact hI.lt _ _ hk, cells2 k0 k1 (.slice A8 2 c8) (.slice B8 2 d8), ((vecL_firm _ _) _ _ _ _ _ qx (ht.keeps hk))⟩
    · intro vs g w2 hI hF hR K hK
      simp only [Facts, fill, Act.put, z1, z2, z3, z4, z5, Nat.reduceAdd] at hF hR hK ⊢
      obtain ⟨r7, r5, -⟩ := hR
      generalize vs 7 = x7, vs 5 = x5 at *
      obtain ⟨k, rfl, hk, hbx⟩ := r7
      have qx := r5
      obtain ⟨A9, c9, B9, d9, rfl⟩ := vecL_open r5
      obtain ⟨⟨u0, k0⟩, f0⟩ := hbx 0 (by decide)
      obtain ⟨⟨u1, k1⟩, f1⟩ := hbx 1 (by decide)
      go_simp
      have ht := (((Touch.refl w2 k).set 0 (.slice A9 2 c9)).set 1 (.slice B9 2 d9))
      exact hK undef _ _ (hI.store (by decide) hk ht) (Step.store hI rfl hk ht) ⟨k, .agg #[.slice A9 2 c9, .slice B9 2 d9], hk, by rw [ht.size]; exact hI.lt _ _ hk, cells2 k0 k1 (.slice A9 2 c9) (.slice B9 2 d9), ((vecL_firm _ _) _ _ _ _ _ qx (ht.keeps hk))⟩
  case fin =>
    intro vs g wR1 hI hR
    have r6 := hR 6 (by decide)
    have r7 := hR 7 (by decide)
    have r8 := hR 8 (by decide)
    have r9 := hR 9 (by decide)
    simp only [fill, Act.put, z1, z2, z3, z4, z5] at r6 r7 r8 r9 ⊢
    clear hR
    generalize vs 6 = x6 at *
    generalize vs 7 = x7 at *
    generalize vs 8 = x8 at *
    generalize vs 9 = x9 at *
    have Ca_R1_0 := Lib.hid (hI.cell Ca_W_0.out (fun _ h => by cases h))
    have Ca_R1_1 := Lib.hid (hI.cell Ca_W_1.out (fun _ h => by cases h))
    have Cb_R1_0 := Lib.hid (hI.cell Cb_W_0.out (fun _ h => by cases h))
    have Cb_R1_1 := Lib.hid (hI.cell Cb_W_1.out (fun _ h => by cases h))
    have Cc_R1_0 := Lib.hid (hI.cell Cc_W_0.out (fun _ h => by cases h))
    have Cc_R1_1 := Lib.hid (hI.cell Cc_W_1.out (fun _ h => by cases h))
    obtain ⟨pR17, rfl, hkR17, -⟩ := r6
    obtain ⟨qR17, uR17, hqR17, -, hcR17, hrR17⟩ := r8
    rw [hkR17] at hqR17
    injection hqR17 with hqR17
    subst hqR17
    have qfR17 := hrR17
    obtain ⟨AvR17, cvR17, BvR17, dvR17, rfl⟩ := vecL_open hrR17
    have FR17_R1_0 := Lib.hid ((vecL_firm _ _) _ _ _ _ _ qfR17 hI.back)
    clear qfR17
    have FR17_R1_1 := Lib.hid (vecL_x FR17_R1_0.out)
    have FR17_R1_2 := Lib.hid (vecL_y FR17_R1_0.out)
    have CR17_R1_0 := Lib.hid (hcR17 0 _ rfl)
    have CR17_R1_1 := Lib.hid (hcR17 1 _ rfl)
    clear hcR17 hkR17
    obtain ⟨pR18, rfl, hkR18, -⟩ := r7
    obtain ⟨qR18, uR18, hqR18, -, hcR18, hrR18⟩ := r9
    rw [hkR18] at hqR18
    injection hqR18 with hqR18
    subst hqR18
    have qfR18 := hrR18
    obtain ⟨AvR18, cvR18, BvR18, dvR18, rfl⟩ := vecL_open hrR18
    have FR18_R1_0 := Lib.hid ((vecL_firm _ _) _ _ _ _ _ qfR18 hI.back)
    clear qfR18
    have FR18_R1_1 := Lib.hid (vecL_x FR18_R1_0.out)
    have FR18_R1_2 := Lib.hid (vecL_y FR18_R1_0.out)
    have CR18_R1_0 := Lib.hid (hcR18 0 _ rfl)
    have CR18_R1_1 := Lib.hid (hcR18 1 _ rfl)
    clear hcR18 hkR18
    have hBR1 := hI.below
    have HCR1 := hI.next (Ctx.ok_none hb0)
    clear hI
    go_upto_region 2 with (fail)
    refine box_plan (c := ⟨w, wR1, (fun _ => none)⟩) HCR1 (by kernel_rfl) [[], [], [(19, 0), (20, 1)], [], [(22, 3)], [], [], [(9, 5), (21, 2)], [(10, 6), (23, 4)]] [(19, 0), (20, 1), (21, 2), (22, 3), (23, 4), (9, 5), (10, 6)] [
        (fun v _ _ => v = .agg #[.int .i64 xb, .int .i64 yb]),
        (fun v _ _ => v = .agg #[.int .i64 xa, .int .i64 ya]),
        VecL (xa - xb) (ya - yb),
        (fun v _ _ => v = .agg #[.slice AvR17 2 cvR17, .slice BvR17 2 dvR17]),
        VecL (-(xb - xa)) (-(yb - ya)),
        PtrR 5 2,
        PtrR 6 2,
        (fun _ g w => BoxR 5 (VecL (xa - xb) (ya - yb)) g w),
        (fun _ g w => BoxR 6 (VecL (-(xb - xa)) (-(yb - ya))) g w)
      ] (fun i => match i with | 5 => some 7 | 6 => some 8 | _ => none) (by kernel_rfl) (by kernel_rfl) ⟨stab_eq, stab_eq, stab_firm (vecL_firm _ _), stab_eq, stab_firm (vecL_firm _ _), stab_ptr, stab_ptr, stab_box (vecL_firm _ _) rfl, stab_box (vecL_firm _ _) rfl, trivial⟩ ?steps ?fin
    case steps =>
      refine ⟨?_, ?_, ?_, ?_, ?_, ?_, ?_, ?_, ?_, trivial⟩
      · intro vs g w2 hI hF hR K hK
        simp only [Facts, fill, Act.put, z1, z2, z3, z4, z5, Nat.reduceAdd] at hF hR hK ⊢
        have k0 := hI.cell Cb_R1_0.out (fun _ h => by cases h)
        have k1 := hI.cell Cb_R1_1.out (fun _ h => by cases h)
        go_simp
        exact hK _ _ _ hI (Step.refl hI) rfl
      · intro vs g w2 hI hF hR K hK
        simp only [Facts, fill, Act.put, z1, z2, z3, z4, z5, Nat.reduceAdd] at hF hR hK ⊢
        have k0 := hI.cell Ca_R1_0.out (fun _ h => by cases h)
        have k1 := hI.cell Ca_R1_1.out (fun _ h => by cases h)
        go_simp
        exact hK _ _ _ hI (Step.refl hI) rfl
      · intro vs g w2 hI hF hR K hK
        simp only [Facts, fill, Act.put, z1, z2, z3, z4, z5, Nat.reduceAdd] at hF hR hK ⊢
        obtain ⟨r0, r1, -⟩ := hR
        generalize vs 0 = x0, vs 1 = x1 at *
        subst r0 r1
        go_simp
        refine (gBetween hI hw (by first | assumption | (unfold S; decide)) (by first | assumption | (unfold S; decide)) (by first | assumption | (unfold S; decide)) (by first | assumption | (unfold S; decide))).mono ?_
        rintro e w3 ⟨v3, rfl, hv, hb⟩
        exact hK _ _ _ (hI.call hb) (Step.call hI hb) hv
      · intro vs g w2 hI hF hR K hK
        simp only [Facts, fill, Act.put, z1, z2, z3, z4, z5, Nat.reduceAdd] at hF hR hK ⊢
        have k0 := hI.cell CR17_R1_0.out (fun _ h => by cases h)
        have k1 := hI.cell CR17_R1_1.out (fun _ h => by cases h)
        go_simp
        exact hK _ _ _ hI (Step.refl hI) rfl
      · intro vs g w2 hI hF hR K hK
        simp only [Facts, fill, Act.put, z1, z2, z3, z4, z5, Nat.reduceAdd] at hF hR hK ⊢
        obtain ⟨r3, -⟩ := hR
        generalize vs 3 = x3 at *
        subst r3
        go_simp
        refine (gVNeg hI hw ((vecL_firm _ _) _ _ _ _ _ FR17_R1_0.out hI.keeps) (by first | exact HE0.out | exact HE1.out | exact HE2.out | exact HE3.out | exact Fit.sv (by repeat first | exact S.diff (by first | assumption | (unfold S; decide)) (by first | assumption | (unfold S; decide)) | apply Fit.neg | (unfold Fit; decide +kernel))) (by first | exact HE0.out | exact HE1.out | exact HE2.out | exact HE3.out | exact Fit.sv (by repeat first | exact S.diff (by first | assumption | (unfold S; decide)) (by first | assumption | (unfold S; decide)) | apply Fit.neg | (unfold Fit; decide +kernel)))).mono ?_
        rintro e w3 ⟨v3, rfl, hv, hb⟩
        exact hK _ _ _ (hI.call hb) (Step.call hI hb) hv
      · intro vs g w2 hI hF hR K hK
        simp only [Facts, fill, Act.put, z1, z2, z3, z4, z5, Nat.reduceAdd] at hF hR hK ⊢
        go_simp
        exact hK _ _ _ (hI.alloc _ (hF (by decide)) _) (Step.alloc hI (hF (by decide)) _) ⟨_, rfl, more_at _ _ _, box2' _ _ _ _⟩
      · intro vs g w2 hI hF hR K hK
        simp only [Facts, fill, Act.put, z1, z2, z3, z4, z5, Nat.reduceAdd] at hF hR hK ⊢
        go_simp
        exact hK _ _ _ (hI.alloc _ (hF (by decide)) _) (Step.alloc hI (hF (by decide)) _) ⟨_, rfl, more_at _ _ _, box2' _ _ _ _⟩
      · intro vs g w2 hI hF hR K hK
        simp only [Facts, fill, Act.put, z1, z2, z3, z4, z5, Nat.reduceAdd] at hF hR hK ⊢
        obtain ⟨r5, r2, -⟩ := hR
        generalize vs 5 = x5, vs 2 = x2 at *
        obtain ⟨k, rfl, hk, hbx⟩ := r5
        have qx := r2
        obtain ⟨A7, c7, B7, d7, rfl⟩ := vecL_open r2
        obtain ⟨⟨u0, k0⟩, f0⟩ := hbx 0 (by decide)
        obtain ⟨⟨u1, k1⟩, f1⟩ := hbx 1 (by decide)
        go_simp
        have ht := (((Touch.refl w2 k).set 0 (.slice A7 2 c7)).set 1 (.slice B7 2 d7))
        exact hK undef _ _ (hI.store (by decide) hk ht) (Step.store hI rfl hk ht) ⟨k, .agg #[.slice A7 2 c7, .slice B7 2 d7], hk, by rw [ht.size]; exact hI.lt _ _ hk, cells2 k0 k1 (.slice A7 2 c7) (.slice B7 2 d7), ((vecL_firm _ _) _ _ _ _ _ qx (ht.keeps hk))⟩
      · intro vs g w2 hI hF hR K hK
        simp only [Facts, fill, Act.put, z1, z2, z3, z4, z5, Nat.reduceAdd] at hF hR hK ⊢
        obtain ⟨r6, r4, -⟩ := hR
        generalize vs 6 = x6, vs 4 = x4 at *
        obtain ⟨k, rfl, hk, hbx⟩ := r6
        have qx := r4
        obtain ⟨A8, c8, B8, d8, rfl⟩ := vecL_open r4
        obtain ⟨⟨u0, k0⟩, f0⟩ := hbx 0 (by decide)
        obtain ⟨⟨u1, k1⟩, f1⟩ := hbx 1 (by decide)
        go_simp
        have ht := (((Touch.refl w2 k).set 0 (.slice A8 2 c8)).set 1 (.slice B8 2 d8))
        exact hK undef _ _ (hI.store (by decide) hk ht) (Step.store hI rfl hk ht) ⟨k, .agg #[.slice A8 2 c8, .slice B8 2 d8], hk, by rw [ht.size]; exact hI.lt _ _ hk, cells2 k0 k1 (.slice A8 2 c8) (.slice B8 2 d8), ((vecL_firm _ _) _ _ _ _ _ qx (ht.keeps hk))⟩
    case fin =>
      intro vs g wR2 hI hR
      have r5 := hR 5 (by decide)
      have r6 := hR 6 (by decide)
      have r7 := hR 7 (by decide)
      have r8 := hR 8 (by decide)
      simp only [fill, Act.put, z1, z2, z3, z4, z5] at r5 r6 r7 r8 ⊢
      clear hR
      generalize vs 5 = x5 at *
      generalize vs 6 = x6 at *
      generalize vs 7 = x7 at *
      generalize vs 8 = x8 at *
      have Ca_R2_0 := Lib.hid (hI.cell Ca_R1_0.out (fun _ h => by cases h))
      have Ca_R2_1 := Lib.hid (hI.cell Ca_R1_1.out (fun _ h => by cases h))
      have Cb_R2_0 := Lib.hid (hI.cell Cb_R1_0.out (fun _ h => by cases h))
      have Cb_R2_1 := Lib.hid (hI.cell Cb_R1_1.out (fun _ h => by cases h))
      have Cc_R2_0 := Lib.hid (hI.cell Cc_R1_0.out (fun _ h => by cases h))
      have Cc_R2_1 := Lib.hid (hI.cell Cc_R1_1.out (fun _ h => by cases h))
      have CR17_R2_0 := Lib.hid (hI.cell CR17_R1_0.out (fun _ h => by cases h))
      have CR17_R2_1 := Lib.hid (hI.cell CR17_R1_1.out (fun _ h => by cases h))
      have FR17_R2_0 := Lib.hid ((vecL_firm _ _) _ _ _ _ _ FR17_R1_0.out hI.carry)
      have FR17_R2_1 := Lib.hid ((limR_firm _ _) _ _ _ _ _ FR17_R1_1.out hI.carry)
      have FR17_R2_2 := Lib.hid ((limR_firm _ _) _ _ _ _ _ FR17_R1_2.out hI.carry)
      have CR18_R2_0 := Lib.hid (hI.cell CR18_R1_0.out (fun _ h => by cases h))
      have CR18_R2_1 := Lib.hid (hI.cell CR18_R1_1.out (fun _ h => by cases h))
      have FR18_R2_0 := Lib.hid ((vecL_firm _ _) _ _ _ _ _ FR18_R1_0.out hI.carry)
      have FR18_R2_1 := Lib.hid ((limR_firm _ _) _ _ _ _ _ FR18_R1_1.out hI.carry)
      have FR18_R2_2 := Lib.hid ((limR_firm _ _) _ _ _ _ _ FR18_R1_2.out hI.carry)
      obtain ⟨pR29, rfl, hkR29, -⟩ := r5
      obtain ⟨qR29, uR29, hqR29, -, hcR29, hrR29⟩ := r7
      rw [hkR29] at hqR29
      injection hqR29 with hqR29
      subst hqR29
      have qfR29 := hrR29
      obtain ⟨AvR29, cvR29, BvR29, dvR29, rfl⟩ := vecL_open hrR29
      have FR29_R2_0 := Lib.hid ((vecL_firm _ _) _ _ _ _ _ qfR29 hI.back)
      clear qfR29
      have FR29_R2_1 := Lib.hid (vecL_x FR29_R2_0.out)
      have FR29_R2_2 := Lib.hid (vecL_y FR29_R2_0.out)
      have CR29_R2_0 := Lib.hid (hcR29 0 _ rfl)
      have CR29_R2_1 := Lib.hid (hcR29 1 _ rfl)
      clear hcR29 hkR29
      obtain ⟨pR210, rfl, hkR210, -⟩ := r6
      obtain ⟨qR210, uR210, hqR210, -, hcR210, hrR210⟩ := r8
      rw [hkR210] at hqR210
      injection hqR210 with hqR210
      subst hqR210
      have qfR210 := hrR210
      obtain ⟨AvR210, cvR210, BvR210, dvR210, rfl⟩ := vecL_open hrR210
      have FR210_R2_0 := Lib.hid ((vecL_firm _ _) _ _ _ _ _ qfR210 hI.back)
      clear qfR210
      have FR210_R2_1 := Lib.hid (vecL_x FR210_R2_0.out)
      have FR210_R2_2 := Lib.hid (vecL_y FR210_R2_0.out)
      have CR210_R2_0 := Lib.hid (hcR210 0 _ rfl)
      have CR210_R2_1 := Lib.hid (hcR210 1 _ rfl)
      clear hcR210 hkR210
      have hBR2 := hI.below
      have HCR2 := hI.next HCR1
      clear hI
      go_upto_region 3 with (fail)
      refine box_plan0 (c := ⟨w, wR2, (fun _ => none)⟩) HCR2 [[], [(24, 0)], [], [(26, 2)], [(25, 1), (27, 3)], [(28, 4)], [(29, 5)], [(30, 6)], [(30, 6), (31, 7)], [(30, 6)], [(30, 6), (33, 9)], [(30, 6), (32, 8), (34, 10)], [(30, 6), (35, 11)], [(30, 6), (36, 12)]] [(24, 0), (25, 1), (26, 2), (27, 3), (28, 4), (29, 5), (30, 6), (31, 7), (32, 8), (33, 9), (34, 10), (35, 11), (36, 12), (37, 13)] [
          (fun v _ _ => v = .pointer (some ⟨pR29, 0, none⟩)),
          (fun v _ _ => v = .slice AvR29 2 cvR29),
          (fun v _ _ => v = .pointer (some ⟨pR210, 0, none⟩)),
          (fun v _ _ => v = .slice AvR210 2 cvR210),
          (fun v _ _ => v = .bool true),
          (fun v _ _ => v = .bool false),
          (fun v _ _ => v = .bool false),
          (fun v _ _ => v = .pointer (some ⟨pR29, 1, none⟩)),
          (fun v _ _ => v = .slice BvR29 2 dvR29),
          (fun v _ _ => v = .pointer (some ⟨pR210, 1, none⟩)),
          (fun v _ _ => v = .slice BvR210 2 dvR210),
          (fun v _ _ => v = .bool true),
          (fun v _ _ => v = .bool false),
          (fun v _ _ => v = .bool false)
        ] (fun _ => none) (by kernel_rfl) (by kernel_rfl) ⟨stab_eq, stab_eq, stab_eq, stab_eq, stab_eq, stab_eq, stab_eq, stab_eq, stab_eq, stab_eq, stab_eq, stab_eq, stab_eq, stab_eq, trivial⟩ ?steps ?fin
      case steps =>
        refine ⟨?_, ?_, ?_, ?_, ?_, ?_, ?_, ?_, ?_, ?_, ?_, ?_, ?_, ?_, trivial⟩
        · intro vs g w2 hI hF hR K hK
          simp only [Facts, fill, Act.put, z1, z2, z3, z4, z5, Nat.reduceAdd] at hF hR hK ⊢
          go_simp
          exact hK _ _ _ hI (Step.refl hI) rfl
        · intro vs g w2 hI hF hR K hK
          simp only [Facts, fill, Act.put, z1, z2, z3, z4, z5, Nat.reduceAdd] at hF hR hK ⊢
          obtain ⟨r0, -⟩ := hR
          generalize vs 0 = x0 at *
          subst r0
          have k0 := hI.cell CR29_R2_0.out (fun _ h => by cases h)
          go_simp
          exact hK _ _ _ hI (Step.refl hI) rfl
        · intro vs g w2 hI hF hR K hK
          simp only [Facts, fill, Act.put, z1, z2, z3, z4, z5, Nat.reduceAdd] at hF hR hK ⊢
          go_simp
          exact hK _ _ _ hI (Step.refl hI) rfl
        · intro vs g w2 hI hF hR K hK
          simp only [Facts, fill, Act.put, z1, z2, z3, z4, z5, Nat.reduceAdd] at hF hR hK ⊢
          obtain ⟨r2, -⟩ := hR
          generalize vs 2 = x2 at *
          subst r2
          have k0 := hI.cell CR210_R2_0.out (fun _ h => by cases h)
          go_simp
          exact hK _ _ _ hI (Step.refl hI) rfl
        · intro vs g w2 hI hF hR K hK
          simp only [Facts, fill, Act.put, z1, z2, z3, z4, z5, Nat.reduceAdd] at hF hR hK ⊢
          obtain ⟨r1, r3, -⟩ := hR
          generalize vs 1 = x1, vs 3 = x3 at *
          subst r1 r3
          go_simp
          refine (gSame ((limR_firm _ _) _ _ _ _ _ FR29_R2_1.out hI.keeps) ((limR_firm _ _) _ _ _ _ _ FR210_R2_1.out hI.keeps) (by decide) (by first | rfl | decide +kernel | (congr 1; grind))).mono ?_
          rintro e w3 ⟨v3, rfl, hv, hb⟩
          exact hK _ _ _ (hI.call hb) (Step.call hI hb) hv
        · intro vs g w2 hI hF hR K hK
          simp only [Facts, fill, Act.put, z1, z2, z3, z4, z5, Nat.reduceAdd] at hF hR hK ⊢
          obtain ⟨r4, -⟩ := hR
          generalize vs 4 = x4 at *
          subst r4
          go_simp
          exact hK _ _ _ hI (Step.refl hI) rfl
        · intro vs g w2 hI hF hR K hK
          simp only [Facts, fill, Act.put, z1, z2, z3, z4, z5, Nat.reduceAdd] at hF hR hK ⊢
          obtain ⟨r5, -⟩ := hR
          generalize vs 5 = x5 at *
          subst r5
          go_simp
          exact hK _ _ _ hI (Step.refl hI) rfl
        · intro vs g w2 hI hF hR K hK
          simp only [Facts, fill, Act.put, z1, z2, z3, z4, z5, Nat.reduceAdd] at hF hR hK ⊢
          obtain ⟨r6, -⟩ := hR
          generalize vs 6 = x6 at *
          subst r6
          go_simp
          exact hK _ _ _ hI (Step.refl hI) rfl
        · intro vs g w2 hI hF hR K hK
          simp only [Facts, fill, Act.put, z1, z2, z3, z4, z5, Nat.reduceAdd] at hF hR hK ⊢
          obtain ⟨r6, r7, -⟩ := hR
          generalize vs 6 = x6, vs 7 = x7 at *
          subst r6 r7
          have k0 := hI.cell CR29_R2_1.out (fun _ h => by cases h)
          go_simp
          exact hK _ _ _ hI (Step.refl hI) rfl
        · intro vs g w2 hI hF hR K hK
          simp only [Facts, fill, Act.put, z1, z2, z3, z4, z5, Nat.reduceAdd] at hF hR hK ⊢
          obtain ⟨r6, -⟩ := hR
          generalize vs 6 = x6 at *
          subst r6
          go_simp
          exact hK _ _ _ hI (Step.refl hI) rfl
        · intro vs g w2 hI hF hR K hK
          simp only [Facts, fill, Act.put, z1, z2, z3, z4, z5, Nat.reduceAdd] at hF hR hK ⊢
          obtain ⟨r6, r9, -⟩ := hR
          generalize vs 6 = x6, vs 9 = x9 at *
          subst r6 r9
          have k0 := hI.cell CR210_R2_1.out (fun _ h => by cases h)
          go_simp
          exact hK _ _ _ hI (Step.refl hI) rfl
        · intro vs g w2 hI hF hR K hK
          simp only [Facts, fill, Act.put, z1, z2, z3, z4, z5, Nat.reduceAdd] at hF hR hK ⊢
          obtain ⟨r6, r8, r10, -⟩ := hR
          generalize vs 6 = x6, vs 8 = x8, vs 10 = x10 at *
          subst r6 r8 r10
          go_simp
          refine (gSame ((limR_firm _ _) _ _ _ _ _ FR29_R2_2.out hI.keeps) ((limR_firm _ _) _ _ _ _ _ FR210_R2_2.out hI.keeps) (by decide) (by first | rfl | decide +kernel | (congr 1; grind))).mono ?_
          rintro e w3 ⟨v3, rfl, hv, hb⟩
          exact hK _ _ _ (hI.call hb) (Step.call hI hb) hv
        · intro vs g w2 hI hF hR K hK
          simp only [Facts, fill, Act.put, z1, z2, z3, z4, z5, Nat.reduceAdd] at hF hR hK ⊢
          obtain ⟨r6, r11, -⟩ := hR
          generalize vs 6 = x6, vs 11 = x11 at *
          subst r6 r11
          go_simp
          exact hK _ _ _ hI (Step.refl hI) rfl
        · intro vs g w2 hI hF hR K hK
          simp only [Facts, fill, Act.put, z1, z2, z3, z4, z5, Nat.reduceAdd] at hF hR hK ⊢
          obtain ⟨r6, r12, -⟩ := hR
          generalize vs 6 = x6, vs 12 = x12 at *
          subst r6 r12
          go_simp
          exact hK _ _ _ hI (Step.refl hI) rfl
      case fin =>
        intro vs g wR3 hI hR
        have r13 := hR 13 (by decide)
        simp only [fill, Act.put, z1, z2, z3, z4, z5] at r13 ⊢
        clear hR
        generalize vs 13 = x13 at *
        have Ca_R3_0 := Lib.hid (hI.cell Ca_R2_0.out (fun _ h => by cases h))
        have Ca_R3_1 := Lib.hid (hI.cell Ca_R2_1.out (fun _ h => by cases h))
        have Cb_R3_0 := Lib.hid (hI.cell Cb_R2_0.out (fun _ h => by cases h))
        have Cb_R3_1 := Lib.hid (hI.cell Cb_R2_1.out (fun _ h => by cases h))
        have Cc_R3_0 := Lib.hid (hI.cell Cc_R2_0.out (fun _ h => by cases h))
        have Cc_R3_1 := Lib.hid (hI.cell Cc_R2_1.out (fun _ h => by cases h))
        have CR17_R3_0 := Lib.hid (hI.cell CR17_R2_0.out (fun _ h => by cases h))
        have CR17_R3_1 := Lib.hid (hI.cell CR17_R2_1.out (fun _ h => by cases h))
        have FR17_R3_0 := Lib.hid ((vecL_firm _ _) _ _ _ _ _ FR17_R2_0.out hI.carry)
        have FR17_R3_1 := Lib.hid ((limR_firm _ _) _ _ _ _ _ FR17_R2_1.out hI.carry)
        have FR17_R3_2 := Lib.hid ((limR_firm _ _) _ _ _ _ _ FR17_R2_2.out hI.carry)
        have CR18_R3_0 := Lib.hid (hI.cell CR18_R2_0.out (fun _ h => by cases h))
        have CR18_R3_1 := Lib.hid (hI.cell CR18_R2_1.out (fun _ h => by cases h))
        have FR18_R3_0 := Lib.hid ((vecL_firm _ _) _ _ _ _ _ FR18_R2_0.out hI.carry)
        have FR18_R3_1 := Lib.hid ((limR_firm _ _) _ _ _ _ _ FR18_R2_1.out hI.carry)
        have FR18_R3_2 := Lib.hid ((limR_firm _ _) _ _ _ _ _ FR18_R2_2.out hI.carry)
        have CR29_R3_0 := Lib.hid (hI.cell CR29_R2_0.out (fun _ h => by cases h))
        have CR29_R3_1 := Lib.hid (hI.cell CR29_R2_1.out (fun _ h => by cases h))
        have FR29_R3_0 := Lib.hid ((vecL_firm _ _) _ _ _ _ _ FR29_R2_0.out hI.carry)
        have FR29_R3_1 := Lib.hid ((limR_firm _ _) _ _ _ _ _ FR29_R2_1.out hI.carry)
        have FR29_R3_2 := Lib.hid ((limR_firm _ _) _ _ _ _ _ FR29_R2_2.out hI.carry)
        have CR210_R3_0 := Lib.hid (hI.cell CR210_R2_0.out (fun _ h => by cases h))
        have CR210_R3_1 := Lib.hid (hI.cell CR210_R2_1.out (fun _ h => by cases h))
        have FR210_R3_0 := Lib.hid ((vecL_firm _ _) _ _ _ _ _ FR210_R2_0.out hI.carry)
        have FR210_R3_1 := Lib.hid ((limR_firm _ _) _ _ _ _ _ FR210_R2_1.out hI.carry)
        have FR210_R3_2 := Lib.hid ((limR_firm _ _) _ _ _ _ _ FR210_R2_2.out hI.carry)
        subst r13
        have hBR3 := hI.below
        have HCR3 := hI.next HCR2
        clear hI
        go_upto_region 5 with (fail)
        refine box_plan (c := ⟨w, wR3, (fun _ => none)⟩) HCR3 (by kernel_rfl) [[], [], [(38, 0), (39, 1)], [], [], [(41, 3), (42, 4)], [(40, 2)], [(43, 5)]] [(38, 0), (39, 1), (40, 2), (41, 3), (42, 4), (43, 5), (11, 6), (12, 7)] [
            (fun v _ _ => v = .agg #[.slice AvR17 2 cvR17, .slice BvR17 2 dvR17]),
            (fun v _ _ => v = .agg #[.slice AvR18 2 cvR18, .slice BvR18 2 dvR18]),
            LimR 4 ((xb - xa) * (yc - ya) - (yb - ya) * (xc - xa)),
            (fun v _ _ => v = .agg #[.slice AvR18 2 cvR18, .slice BvR18 2 dvR18]),
            (fun v _ _ => v = .agg #[.slice AvR17 2 cvR17, .slice BvR17 2 dvR17]),
            LimR 4 ((xc - xa) * (yb - ya) - (yc - ya) * (xb - xa)),
            LimR 4 ((xb - xa) * (yc - ya) - (yb - ya) * (xc - xa)),
            LimR 4 ((xc - xa) * (yb - ya) - (yc - ya) * (xb - xa))
          ] (fun _ => none) (by kernel_rfl) (by kernel_rfl) ⟨stab_eq, stab_eq, stab_firm (limR_firm _ _), stab_eq, stab_eq, stab_firm (limR_firm _ _), stab_firm (limR_firm _ _), stab_firm (limR_firm _ _), trivial⟩ ?steps ?fin
        case steps =>
          refine ⟨?_, ?_, ?_, ?_, ?_, ?_, ?_, ?_, trivial⟩
          · intro vs g w2 hI hF hR K hK
            simp only [Facts, fill, Act.put, z1, z2, z3, z4, z5, Nat.reduceAdd] at hF hR hK ⊢
            have k0 := hI.cell CR17_R3_0.out (fun _ h => by cases h)
            have k1 := hI.cell CR17_R3_1.out (fun _ h => by cases h)
            go_simp
            exact hK _ _ _ hI (Step.refl hI) rfl
          · intro vs g w2 hI hF hR K hK
            simp only [Facts, fill, Act.put, z1, z2, z3, z4, z5, Nat.reduceAdd] at hF hR hK ⊢
            have k0 := hI.cell CR18_R3_0.out (fun _ h => by cases h)
            have k1 := hI.cell CR18_R3_1.out (fun _ h => by cases h)
            go_simp
            exact hK _ _ _ hI (Step.refl hI) rfl
          · intro vs g w2 hI hF hR K hK
            simp only [Facts, fill, Act.put, z1, z2, z3, z4, z5, Nat.reduceAdd] at hF hR hK ⊢
            obtain ⟨r0, r1, -⟩ := hR
            generalize vs 0 = x0, vs 1 = x1 at *
            subst r0 r1
            go_simp
            refine (gCross hI hw ((vecL_firm _ _) _ _ _ _ _ FR17_R3_0.out hI.keeps) ((vecL_firm _ _) _ _ _ _ _ FR18_R3_0.out hI.keeps) (by first | exact HE0.out | exact HE1.out | exact HE2.out | exact HE3.out | exact Fit.sv (by repeat first | exact S.diff (by first | assumption | (unfold S; decide)) (by first | assumption | (unfold S; decide)) | apply Fit.neg | (unfold Fit; decide +kernel))) (by first | exact HE0.out | exact HE1.out | exact HE2.out | exact HE3.out | exact Fit.sv (by repeat first | exact S.diff (by first | assumption | (unfold S; decide)) (by first | assumption | (unfold S; decide)) | apply Fit.neg | (unfold Fit; decide +kernel))) (by first | exact HE0.out | exact HE1.out | exact HE2.out | exact HE3.out | exact Fit.sv (by repeat first | exact S.diff (by first | assumption | (unfold S; decide)) (by first | assumption | (unfold S; decide)) | apply Fit.neg | (unfold Fit; decide +kernel))) (by first | exact HE0.out | exact HE1.out | exact HE2.out | exact HE3.out | exact Fit.sv (by repeat first | exact S.diff (by first | assumption | (unfold S; decide)) (by first | assumption | (unfold S; decide)) | apply Fit.neg | (unfold Fit; decide +kernel)))).mono ?_
            rintro e w3 ⟨v3, rfl, hv, hb⟩
            exact hK _ _ _ (hI.call hb) (Step.call hI hb) hv
          · intro vs g w2 hI hF hR K hK
            simp only [Facts, fill, Act.put, z1, z2, z3, z4, z5, Nat.reduceAdd] at hF hR hK ⊢
            have k0 := hI.cell CR18_R3_0.out (fun _ h => by cases h)
            have k1 := hI.cell CR18_R3_1.out (fun _ h => by cases h)
            go_simp
            exact hK _ _ _ hI (Step.refl hI) rfl
          · intro vs g w2 hI hF hR K hK
            simp only [Facts, fill, Act.put, z1, z2, z3, z4, z5, Nat.reduceAdd] at hF hR hK ⊢
            have k0 := hI.cell CR17_R3_0.out (fun _ h => by cases h)
            have k1 := hI.cell CR17_R3_1.out (fun _ h => by cases h)
            go_simp
            exact hK _ _ _ hI (Step.refl hI) rfl
          · intro vs g w2 hI hF hR K hK
            simp only [Facts, fill, Act.put, z1, z2, z3, z4, z5, Nat.reduceAdd] at hF hR hK ⊢
            obtain ⟨r3, r4, -⟩ := hR
            generalize vs 3 = x3, vs 4 = x4 at *
            subst r3 r4
            go_simp
            refine (gCross hI hw ((vecL_firm _ _) _ _ _ _ _ FR18_R3_0.out hI.keeps) ((vecL_firm _ _) _ _ _ _ _ FR17_R3_0.out hI.keeps) (by first | exact HE0.out | exact HE1.out | exact HE2.out | exact HE3.out | exact Fit.sv (by repeat first | exact S.diff (by first | assumption | (unfold S; decide)) (by first | assumption | (unfold S; decide)) | apply Fit.neg | (unfold Fit; decide +kernel))) (by first | exact HE0.out | exact HE1.out | exact HE2.out | exact HE3.out | exact Fit.sv (by repeat first | exact S.diff (by first | assumption | (unfold S; decide)) (by first | assumption | (unfold S; decide)) | apply Fit.neg | (unfold Fit; decide +kernel))) (by first | exact HE0.out | exact HE1.out | exact HE2.out | exact HE3.out | exact Fit.sv (by repeat first | exact S.diff (by first | assumption | (unfold S; decide)) (by first | assumption | (unfold S; decide)) | apply Fit.neg | (unfold Fit; decide +kernel))) (by first | exact HE0.out | exact HE1.out | exact HE2.out | exact HE3.out | exact Fit.sv (by repeat first | exact S.diff (by first | assumption | (unfold S; decide)) (by first | assumption | (unfold S; decide)) | apply Fit.neg | (unfold Fit; decide +kernel)))).mono ?_
            rintro e w3 ⟨v3, rfl, hv, hb⟩
            exact hK _ _ _ (hI.call hb) (Step.call hI hb) hv
          · intro vs g w2 hI hF hR K hK
            simp only [Facts, fill, Act.put, z1, z2, z3, z4, z5, Nat.reduceAdd] at hF hR hK ⊢
            obtain ⟨r2, -⟩ := hR
            generalize vs 2 = x2 at *
            go_simp
            exact hK _ _ _ hI (Step.refl hI) r2
          · intro vs g w2 hI hF hR K hK
            simp only [Facts, fill, Act.put, z1, z2, z3, z4, z5, Nat.reduceAdd] at hF hR hK ⊢
            obtain ⟨r5, -⟩ := hR
            generalize vs 5 = x5 at *
            go_simp
            exact hK _ _ _ hI (Step.refl hI) r5
        case fin =>
          intro vs g wR5 hI hR
          have r6 := hR 6 (by decide)
          have r7 := hR 7 (by decide)
          simp only [fill, Act.put, z1, z2, z3, z4, z5] at r6 r7 ⊢
          clear hR
          generalize vs 6 = x6 at *
          generalize vs 7 = x7 at *
          have Ca_R5_0 := Lib.hid (hI.cell Ca_R3_0.out (fun _ h => by cases h))
          have Ca_R5_1 := Lib.hid (hI.cell Ca_R3_1.out (fun _ h => by cases h))
          have Cb_R5_0 := Lib.hid (hI.cell Cb_R3_0.out (fun _ h => by cases h))
          have Cb_R5_1 := Lib.hid (hI.cell Cb_R3_1.out (fun _ h => by cases h))
          have Cc_R5_0 := Lib.hid (hI.cell Cc_R3_0.out (fun _ h => by cases h))
          have Cc_R5_1 := Lib.hid (hI.cell Cc_R3_1.out (fun _ h => by cases h))
          have CR17_R5_0 := Lib.hid (hI.cell CR17_R3_0.out (fun _ h => by cases h))
          have CR17_R5_1 := Lib.hid (hI.cell CR17_R3_1.out (fun _ h => by cases h))
          have FR17_R5_0 := Lib.hid ((vecL_firm _ _) _ _ _ _ _ FR17_R3_0.out hI.carry)
          have FR17_R5_1 := Lib.hid ((limR_firm _ _) _ _ _ _ _ FR17_R3_1.out hI.carry)
          have FR17_R5_2 := Lib.hid ((limR_firm _ _) _ _ _ _ _ FR17_R3_2.out hI.carry)
          have CR18_R5_0 := Lib.hid (hI.cell CR18_R3_0.out (fun _ h => by cases h))
          have CR18_R5_1 := Lib.hid (hI.cell CR18_R3_1.out (fun _ h => by cases h))
          have FR18_R5_0 := Lib.hid ((vecL_firm _ _) _ _ _ _ _ FR18_R3_0.out hI.carry)
          have FR18_R5_1 := Lib.hid ((limR_firm _ _) _ _ _ _ _ FR18_R3_1.out hI.carry)
          have FR18_R5_2 := Lib.hid ((limR_firm _ _) _ _ _ _ _ FR18_R3_2.out hI.carry)
          have CR29_R5_0 := Lib.hid (hI.cell CR29_R3_0.out (fun _ h => by cases h))
          have CR29_R5_1 := Lib.hid (hI.cell CR29_R3_1.out (fun _ h => by cases h))
          have FR29_R5_0 := Lib.hid ((vecL_firm _ _) _ _ _ _ _ FR29_R3_0.out hI.carry)
          have FR29_R5_1 := Lib.hid ((limR_firm _ _) _ _ _ _ _ FR29_R3_1.out hI.carry)
          have FR29_R5_2 := Lib.hid ((limR_firm _ _) _ _ _ _ _ FR29_R3_2.out hI.carry)
          have CR210_R5_0 := Lib.hid (hI.cell CR210_R3_0.out (fun _ h => by cases h))
          have CR210_R5_1 := Lib.hid (hI.cell CR210_R3_1.out (fun _ h => by cases h))
          have FR210_R5_0 := Lib.hid ((vecL_firm _ _) _ _ _ _ _ FR210_R3_0.out hI.carry)
          have FR210_R5_1 := Lib.hid ((limR_firm _ _) _ _ _ _ _ FR210_R3_1.out hI.carry)
          have FR210_R5_2 := Lib.hid ((limR_firm _ _) _ _ _ _ _ FR210_R3_2.out hI.carry)
          have qfR511 := r6
          obtain ⟨AvR511, cvR511, rfl⟩ := limR_open r6
          have FR511_R5_0 := Lib.hid ((limR_firm _ _) _ _ _ _ _ qfR511 hI.back)
          clear qfR511
          have qfR512 := r7
          obtain ⟨AvR512, cvR512, rfl⟩ := limR_open r7
          have FR512_R5_0 := Lib.hid ((limR_firm _ _) _ _ _ _ _ qfR512 hI.back)
          clear qfR512
          have hBR5 := hI.below
          have HCR5 := hI.next HCR3
          clear hI
          go_upto_region 6 with (fail)
          refine box_plan0 (c := ⟨w, wR5, (fun _ => none)⟩) HCR5 [[], [(44, 0)], [(45, 1)], [(46, 2)], [(47, 3)], [(47, 3), (48, 4)], [(47, 3), (49, 5)], [(47, 3), (50, 6)]] [(44, 0), (45, 1), (46, 2), (47, 3), (48, 4), (49, 5), (50, 6), (51, 7)] [
              (fun v _ _ => v = .slice AvR511 4 cvR511),
              (fun v _ _ => v = .int .i64 4),
              (fun v _ _ => v = .bool false),
              (fun v _ _ => v = .bool false),
              (fun v _ _ => v = .slice AvR512 4 cvR512),
              (fun v _ _ => v = .int .i64 4),
              (fun v _ _ => v = .bool false),
              (fun v _ _ => v = .bool false)
            ] (fun _ => none) (by kernel_rfl) (by kernel_rfl) ⟨stab_eq, stab_eq, stab_eq, stab_eq, stab_eq, stab_eq, stab_eq, stab_eq, trivial⟩ ?steps ?fin
          case steps =>
            refine ⟨?_, ?_, ?_, ?_, ?_, ?_, ?_, ?_, trivial⟩
            · intro vs g w2 hI hF hR K hK
              simp only [Facts, fill, Act.put, z1, z2, z3, z4, z5, Nat.reduceAdd] at hF hR hK ⊢
              go_simp
              exact hK _ _ _ hI (Step.refl hI) rfl
            · intro vs g w2 hI hF hR K hK
              simp only [Facts, fill, Act.put, z1, z2, z3, z4, z5, Nat.reduceAdd] at hF hR hK ⊢
              obtain ⟨r0, -⟩ := hR
              generalize vs 0 = x0 at *
              subst r0
              go_simp
              exact hK _ _ _ hI (Step.refl hI) rfl
            · intro vs g w2 hI hF hR K hK
              simp only [Facts, fill, Act.put, z1, z2, z3, z4, z5, Nat.reduceAdd] at hF hR hK ⊢
              obtain ⟨r1, -⟩ := hR
              generalize vs 1 = x1 at *
              subst r1
              go_simp
              exact hK _ _ _ hI (Step.refl hI) rfl
            · intro vs g w2 hI hF hR K hK
              simp only [Facts, fill, Act.put, z1, z2, z3, z4, z5, Nat.reduceAdd] at hF hR hK ⊢
              obtain ⟨r2, -⟩ := hR
              generalize vs 2 = x2 at *
              subst r2
              go_simp
              exact hK _ _ _ hI (Step.refl hI) rfl
            · intro vs g w2 hI hF hR K hK
              simp only [Facts, fill, Act.put, z1, z2, z3, z4, z5, Nat.reduceAdd] at hF hR hK ⊢
              obtain ⟨r3, -⟩ := hR
              generalize vs 3 = x3 at *
              subst r3
              go_simp
              exact hK _ _ _ hI (Step.refl hI) rfl
            · intro vs g w2 hI hF hR K hK
              simp only [Facts, fill, Act.put, z1, z2, z3, z4, z5, Nat.reduceAdd] at hF hR hK ⊢
              obtain ⟨r3, r4, -⟩ := hR
              generalize vs 3 = x3, vs 4 = x4 at *
              subst r3 r4
              go_simp
              exact hK _ _ _ hI (Step.refl hI) rfl
            · intro vs g w2 hI hF hR K hK
              simp only [Facts, fill, Act.put, z1, z2, z3, z4, z5, Nat.reduceAdd] at hF hR hK ⊢
              obtain ⟨r3, r5, -⟩ := hR
              generalize vs 3 = x3, vs 5 = x5 at *
              subst r3 r5
              go_simp
              exact hK _ _ _ hI (Step.refl hI) rfl
            · intro vs g w2 hI hF hR K hK
              simp only [Facts, fill, Act.put, z1, z2, z3, z4, z5, Nat.reduceAdd] at hF hR hK ⊢
              obtain ⟨r3, r6, -⟩ := hR
              generalize vs 3 = x3, vs 6 = x6 at *
              subst r3 r6
              go_simp
              exact hK _ _ _ hI (Step.refl hI) rfl
          case fin =>
            intro vs g wR6 hI hR
            have r7 := hR 7 (by decide)
            simp only [fill, Act.put, z1, z2, z3, z4, z5] at r7 ⊢
            clear hR
            generalize vs 7 = x7 at *
            have Ca_R6_0 := Lib.hid (hI.cell Ca_R5_0.out (fun _ h => by cases h))
            have Ca_R6_1 := Lib.hid (hI.cell Ca_R5_1.out (fun _ h => by cases h))
            have Cb_R6_0 := Lib.hid (hI.cell Cb_R5_0.out (fun _ h => by cases h))
            have Cb_R6_1 := Lib.hid (hI.cell Cb_R5_1.out (fun _ h => by cases h))
            have Cc_R6_0 := Lib.hid (hI.cell Cc_R5_0.out (fun _ h => by cases h))
            have Cc_R6_1 := Lib.hid (hI.cell Cc_R5_1.out (fun _ h => by cases h))
            have CR17_R6_0 := Lib.hid (hI.cell CR17_R5_0.out (fun _ h => by cases h))
            have CR17_R6_1 := Lib.hid (hI.cell CR17_R5_1.out (fun _ h => by cases h))
            have FR17_R6_0 := Lib.hid ((vecL_firm _ _) _ _ _ _ _ FR17_R5_0.out hI.carry)
            have FR17_R6_1 := Lib.hid ((limR_firm _ _) _ _ _ _ _ FR17_R5_1.out hI.carry)
            have FR17_R6_2 := Lib.hid ((limR_firm _ _) _ _ _ _ _ FR17_R5_2.out hI.carry)
            have CR18_R6_0 := Lib.hid (hI.cell CR18_R5_0.out (fun _ h => by cases h))
            have CR18_R6_1 := Lib.hid (hI.cell CR18_R5_1.out (fun _ h => by cases h))
            have FR18_R6_0 := Lib.hid ((vecL_firm _ _) _ _ _ _ _ FR18_R5_0.out hI.carry)
            have FR18_R6_1 := Lib.hid ((limR_firm _ _) _ _ _ _ _ FR18_R5_1.out hI.carry)
            have FR18_R6_2 := Lib.hid ((limR_firm _ _) _ _ _ _ _ FR18_R5_2.out hI.carry)
            have CR29_R6_0 := Lib.hid (hI.cell CR29_R5_0.out (fun _ h => by cases h))
            have CR29_R6_1 := Lib.hid (hI.cell CR29_R5_1.out (fun _ h => by cases h))
            have FR29_R6_0 := Lib.hid ((vecL_firm _ _) _ _ _ _ _ FR29_R5_0.out hI.carry)
            have FR29_R6_1 := Lib.hid ((limR_firm _ _) _ _ _ _ _ FR29_R5_1.out hI.carry)
            have FR29_R6_2 := Lib.hid ((limR_firm _ _) _ _ _ _ _ FR29_R5_2.out hI.carry)
            have CR210_R6_0 := Lib.hid (hI.cell CR210_R5_0.out (fun _ h => by cases h))
            have CR210_R6_1 := Lib.hid (hI.cell CR210_R5_1.out (fun _ h => by cases h))
            have FR210_R6_0 := Lib.hid ((vecL_firm _ _) _ _ _ _ _ FR210_R5_0.out hI.carry)
            have FR210_R6_1 := Lib.hid ((limR_firm _ _) _ _ _ _ _ FR210_R5_1.out hI.carry)
            have FR210_R6_2 := Lib.hid ((limR_firm _ _) _ _ _ _ _ FR210_R5_2.out hI.carry)
            have FR511_R6_0 := Lib.hid ((limR_firm _ _) _ _ _ _ _ FR511_R5_0.out hI.carry)
            have FR512_R6_0 := Lib.hid ((limR_firm _ _) _ _ _ _ _ FR512_R5_0.out hI.carry)
            subst r7
            have hBR6 := hI.below
            have HCR6 := hI.next HCR5
            clear hI
            go_upto_region 8 with (fail)
            refine box_plan (c := ⟨w, wR6, (fun _ => none)⟩) HCR6 (by kernel_rfl) [[], [(52, 0)], [(53, 1)], [(53, 1)], [(53, 1), (55, 3)], [(53, 1), (56, 4)], [(53, 1), (54, 2), (57, 5)], [(53, 1), (58, 6)], [(59, 7)], [(60, 8)], [(60, 8)], [(60, 8), (61, 9), (62, 10)], [(60, 8)], [(60, 8)], [(60, 8), (64, 12), (65, 13)], [(60, 8), (63, 11), (66, 14)], [(60, 8), (67, 15)], [(68, 16)], [(69, 17)], [(69, 17)], [(69, 17), (70, 18), (71, 19)], [(69, 17)], [(69, 17), (72, 20), (73, 21)], [(69, 17), (74, 22)], [(75, 23)]] [(52, 0), (53, 1), (54, 2), (55, 3), (56, 4), (57, 5), (58, 6), (59, 7), (60, 8), (61, 9), (62, 10), (63, 11), (64, 12), (65, 13), (66, 14), (67, 15), (68, 16), (69, 17), (70, 18), (71, 19), (72, 20), (73, 21), (74, 22), (75, 23), (6, 24)] [
                (fun v _ _ => v = .bool true),
                (fun v _ _ => v = .bool true),
                (fun v _ _ => v = .slice AvR511 4 cvR511),
                (fun v _ _ => v = .slice AvR512 4 cvR512),
                NumG (4 * 4 + 2) ((xc - xa) * (yb - ya) - (yc - ya) * (xb - xa)),
                NumG (4 * 4 + 2) (-((xc - xa) * (yb - ya) - (yc - ya) * (xb - xa))),
                (fun v _ _ => v = .bool true),
                (fun v _ _ => v = .bool true),
                (fun v _ _ => v = .bool true),
                (fun v _ _ => v = .agg #[.slice AvR17 2 cvR17, .slice BvR17 2 dvR17]),
                (fun v _ _ => v = .agg #[.slice AvR18 2 cvR18, .slice BvR18 2 dvR18]),
                LimR 4 ((xb - xa) * (xc - xa) + (yb - ya) * (yc - ya)),
                (fun v _ _ => v = .agg #[.slice AvR18 2 cvR18, .slice BvR18 2 dvR18]),
                (fun v _ _ => v = .agg #[.slice AvR17 2 cvR17, .slice BvR17 2 dvR17]),
                LimR 4 ((xc - xa) * (xb - xa) + (yc - ya) * (yb - ya)),
                (fun v _ _ => v = .bool true),
                (fun v _ _ => v = .bool true),
                (fun v _ _ => v = .bool true),
                (fun v _ _ => v = .agg #[.slice AvR210 2 cvR210, .slice BvR210 2 dvR210]),
                (fun v _ _ => v = .agg #[.slice AvR18 2 cvR18, .slice BvR18 2 dvR18]),
                LimR 4 ((-(xb - xa)) * (yc - ya) - (-(yb - ya)) * (xc - xa)),
                (fun v _ _ => v = .slice AvR512 4 cvR512),
                (fun v _ _ => v = .bool true),
                (fun v _ _ => v = .bool true),
                (fun v _ _ => v = .bool true)
              ] (fun _ => none) (by kernel_rfl) (by kernel_rfl) ⟨stab_eq, stab_eq, stab_eq, stab_eq, stab_firm (numG_firm _ _), stab_firm (numG_firm _ _), stab_eq, stab_eq, stab_eq, stab_eq, stab_eq, stab_firm (limR_firm _ _), stab_eq, stab_eq, stab_firm (limR_firm _ _), stab_eq, stab_eq, stab_eq, stab_eq, stab_eq, stab_firm (limR_firm _ _), stab_eq, stab_eq, stab_eq, stab_eq, trivial⟩ ?steps ?fin
            case steps =>
              refine ⟨?_, ?_, ?_, ?_, ?_, ?_, ?_, ?_, ?_, ?_, ?_, ?_, ?_, ?_, ?_, ?_, ?_, ?_, ?_, ?_, ?_, ?_, ?_, ?_, ?_, trivial⟩
              · intro vs g w2 hI hF hR K hK
                simp only [Facts, fill, Act.put, z1, z2, z3, z4, z5, Nat.reduceAdd] at hF hR hK ⊢
                go_simp
                refine (gAlive5 hI hw).mono ?_
                rintro e w3 ⟨v3, rfl, hv, hb⟩
                exact hK _ _ _ (hI.call hb) (Step.call hI hb) hv
              · intro vs g w2 hI hF hR K hK
                simp only [Facts, fill, Act.put, z1, z2, z3, z4, z5, Nat.reduceAdd] at hF hR hK ⊢
                obtain ⟨r0, -⟩ := hR
                generalize vs 0 = x0 at *
                subst r0
                go_simp
                exact hK _ _ _ hI (Step.refl hI) rfl
              · intro vs g w2 hI hF hR K hK
                simp only [Facts, fill, Act.put, z1, z2, z3, z4, z5, Nat.reduceAdd] at hF hR hK ⊢
                obtain ⟨r1, -⟩ := hR
                generalize vs 1 = x1 at *
                subst r1
                go_simp
                exact hK _ _ _ hI (Step.refl hI) rfl
              · intro vs g w2 hI hF hR K hK
                simp only [Facts, fill, Act.put, z1, z2, z3, z4, z5, Nat.reduceAdd] at hF hR hK ⊢
                obtain ⟨r1, -⟩ := hR
                generalize vs 1 = x1 at *
                subst r1
                go_simp
                exact hK _ _ _ hI (Step.refl hI) rfl
              · intro vs g w2 hI hF hR K hK
                simp only [Facts, fill, Act.put, z1, z2, z3, z4, z5, Nat.reduceAdd] at hF hR hK ⊢
                obtain ⟨r1, r3, -⟩ := hR
                generalize vs 1 = x1, vs 3 = x3 at *
                subst r1 r3
                go_simp
                refine (gValueF hI ((limR_firm _ _) _ _ _ _ _ FR512_R6_0.out hI.keeps) (by decide) (by first | (refine fit4_sub ?_ ?_ ?_ ?_ <;> repeat first | exact S.diff (by first | assumption | (unfold S; decide)) (by first | assumption | (unfold S; decide)) | apply Fit.neg) | (refine fit4_add ?_ ?_ ?_ ?_ <;> repeat first | exact S.diff (by first | assumption | (unfold S; decide)) (by first | assumption | (unfold S; decide)) | apply Fit.neg))).mono ?_
                rintro e w3 ⟨v3, rfl, hv, hb⟩
                exact hK _ _ _ (hI.call hb) (Step.call hI hb) hv
              · intro vs g w2 hI hF hR K hK
                simp only [Facts, fill, Act.put, z1, z2, z3, z4, z5, Nat.reduceAdd] at hF hR hK ⊢
                obtain ⟨r1, r4, -⟩ := hR
                generalize vs 1 = x1, vs 4 = x4 at *
                subst r1
                go_simp
                refine (gNeg r4).mono ?_
                rintro e w3 ⟨v3, rfl, hv, hb⟩
                exact hK _ _ _ (hI.call hb) (Step.call hI hb) hv
              · intro vs g w2 hI hF hR K hK
                simp only [Facts, fill, Act.put, z1, z2, z3, z4, z5, Nat.reduceAdd] at hF hR hK ⊢
                obtain ⟨r1, r2, r5, -⟩ := hR
                generalize vs 1 = x1, vs 2 = x2, vs 5 = x5 at *
                subst r1 r2
                go_simp
                refine (gLawLimbs hI ((limR_firm _ _) _ _ _ _ _ FR511_R6_0.out hI.keeps) r5 (by decide) (by decide) (by first | rfl | grind)).mono ?_
                rintro e w3 ⟨v3, rfl, hv, hb⟩
                exact hK _ _ _ (hI.call hb) (Step.call hI hb) hv
              · intro vs g w2 hI hF hR K hK
                simp only [Facts, fill, Act.put, z1, z2, z3, z4, z5, Nat.reduceAdd] at hF hR hK ⊢
                obtain ⟨r1, r6, -⟩ := hR
                generalize vs 1 = x1, vs 6 = x6 at *
                subst r1 r6
                go_simp
                exact hK _ _ _ hI (Step.refl hI) rfl
              · intro vs g w2 hI hF hR K hK
                simp only [Facts, fill, Act.put, z1, z2, z3, z4, z5, Nat.reduceAdd] at hF hR hK ⊢
                obtain ⟨r7, -⟩ := hR
                generalize vs 7 = x7 at *
                subst r7
                go_simp
                exact hK _ _ _ hI (Step.refl hI) rfl
              · intro vs g w2 hI hF hR K hK
                simp only [Facts, fill, Act.put, z1, z2, z3, z4, z5, Nat.reduceAdd] at hF hR hK ⊢
                obtain ⟨r8, -⟩ := hR
                generalize vs 8 = x8 at *
                subst r8
                have k0 := hI.cell CR17_R6_0.out (fun _ h => by cases h)
                have k1 := hI.cell CR17_R6_1.out (fun _ h => by cases h)
                go_simp
                exact hK _ _ _ hI (Step.refl hI) rfl
              · intro vs g w2 hI hF hR K hK
                simp only [Facts, fill, Act.put, z1, z2, z3, z4, z5, Nat.reduceAdd] at hF hR hK ⊢
                obtain ⟨r8, -⟩ := hR
                generalize vs 8 = x8 at *
                subst r8
                have k0 := hI.cell CR18_R6_0.out (fun _ h => by cases h)
                have k1 := hI.cell CR18_R6_1.out (fun _ h => by cases h)
                go_simp
                exact hK _ _ _ hI (Step.refl hI) rfl
              · intro vs g w2 hI hF hR K hK
                simp only [Facts, fill, Act.put, z1, z2, z3, z4, z5, Nat.reduceAdd] at hF hR hK ⊢
                obtain ⟨r8, r9, r10, -⟩ := hR
                generalize vs 8 = x8, vs 9 = x9, vs 10 = x10 at *
                subst r8 r9 r10
                go_simp
                refine (gDot hI hw ((vecL_firm _ _) _ _ _ _ _ FR17_R6_0.out hI.keeps) ((vecL_firm _ _) _ _ _ _ _ FR18_R6_0.out hI.keeps) (by first | exact HE0.out | exact HE1.out | exact HE2.out | exact HE3.out | exact Fit.sv (by repeat first | exact S.diff (by first | assumption | (unfold S; decide)) (by first | assumption | (unfold S; decide)) | apply Fit.neg | (unfold Fit; decide +kernel))) (by first | exact HE0.out | exact HE1.out | exact HE2.out | exact HE3.out | exact Fit.sv (by repeat first | exact S.diff (by first | assumption | (unfold S; decide)) (by first | assumption | (unfold S; decide)) | apply Fit.neg | (unfold Fit; decide +kernel))) (by first | exact HE0.out | exact HE1.out | exact HE2.out | exact HE3.out | exact Fit.sv (by repeat first | exact S.diff (by first | assumption | (unfold S; decide)) (by first | assumption | (unfold S; decide)) | apply Fit.neg | (unfold Fit; decide +kernel))) (by first | exact HE0.out | exact HE1.out | exact HE2.out | exact HE3.out | exact Fit.sv (by repeat first | exact S.diff (by first | assumption | (unfold S; decide)) (by first | assumption | (unfold S; decide)) | apply Fit.neg | (unfold Fit; decide +kernel)))).mono ?_
                rintro e w3 ⟨v3, rfl, hv, hb⟩
                exact hK _ _ _ (hI.call hb) (Step.call hI hb) hv
              · intro vs g w2 hI hF hR K hK
                simp only [Facts, fill, Act.put, z1, z2, z3, z4, z5, Nat.reduceAdd] at hF hR hK ⊢
                obtain ⟨r8, -⟩ := hR
                generalize vs 8 = x8 at *
                subst r8
                have k0 := hI.cell CR18_R6_0.out (fun _ h => by cases h)
                have k1 := hI.cell CR18_R6_1.out (fun _ h => by cases h)
                go_simp
                exact hK _ _ _ hI (Step.refl hI) rfl
              · intro vs g w2 hI hF hR K hK
                simp only [Facts, fill, Act.put, z1, z2, z3, z4, z5, Nat.reduceAdd] at hF hR hK ⊢
                obtain ⟨r8, -⟩ := hR
                generalize vs 8 = x8 at *
                subst r8
                have k0 := hI.cell CR17_R6_0.out (fun _ h => by cases h)
                have k1 := hI.cell CR17_R6_1.out (fun _ h => by cases h)
                go_simp
                exact hK _ _ _ hI (Step.refl hI) rfl
              · intro vs g w2 hI hF hR K hK
                simp only [Facts, fill, Act.put, z1, z2, z3, z4, z5, Nat.reduceAdd] at hF hR hK ⊢
                obtain ⟨r8, r12, r13, -⟩ := hR
                generalize vs 8 = x8, vs 12 = x12, vs 13 = x13 at *
                subst r8 r12 r13
                go_simp
                refine (gDot hI hw ((vecL_firm _ _) _ _ _ _ _ FR18_R6_0.out hI.keeps) ((vecL_firm _ _) _ _ _ _ _ FR17_R6_0.out hI.keeps) (by first | exact HE0.out | exact HE1.out | exact HE2.out | exact HE3.out | exact Fit.sv (by repeat first | exact S.diff (by first | assumption | (unfold S; decide)) (by first | assumption | (unfold S; decide)) | apply Fit.neg | (unfold Fit; decide +kernel))) (by first | exact HE0.out | exact HE1.out | exact HE2.out | exact HE3.out | exact Fit.sv (by repeat first | exact S.diff (by first | assumption | (unfold S; decide)) (by first | assumption | (unfold S; decide)) | apply Fit.neg | (unfold Fit; decide +kernel))) (by first | exact HE0.out | exact HE1.out | exact HE2.out | exact HE3.out | exact Fit.sv (by repeat first | exact S.diff (by first | assumption | (unfold S; decide)) (by first | assumption | (unfold S; decide)) | apply Fit.neg | (unfold Fit; decide +kernel))) (by first | exact HE0.out | exact HE1.out | exact HE2.out | exact HE3.out | exact Fit.sv (by repeat first | exact S.diff (by first | assumption | (unfold S; decide)) (by first | assumption | (unfold S; decide)) | apply Fit.neg | (unfold Fit; decide +kernel)))).mono ?_
                rintro e w3 ⟨v3, rfl, hv, hb⟩
                exact hK _ _ _ (hI.call hb) (Step.call hI hb) hv
              · intro vs g w2 hI hF hR K hK
                simp only [Facts, fill, Act.put, z1, z2, z3, z4, z5, Nat.reduceAdd] at hF hR hK ⊢
                obtain ⟨r8, r11, r14, -⟩ := hR
                generalize vs 8 = x8, vs 11 = x11, vs 14 = x14 at *
                subst r8
                go_simp
                refine (gSame r11 r14 (by decide) (by first | rfl | decide +kernel | (congr 1; grind))).mono ?_
                rintro e w3 ⟨v3, rfl, hv, hb⟩
                exact hK _ _ _ (hI.call hb) (Step.call hI hb) hv
              · intro vs g w2 hI hF hR K hK
                simp only [Facts, fill, Act.put, z1, z2, z3, z4, z5, Nat.reduceAdd] at hF hR hK ⊢
                obtain ⟨r8, r15, -⟩ := hR
                generalize vs 8 = x8, vs 15 = x15 at *
                subst r8 r15
                go_simp
                exact hK _ _ _ hI (Step.refl hI) rfl
              · intro vs g w2 hI hF hR K hK
                simp only [Facts, fill, Act.put, z1, z2, z3, z4, z5, Nat.reduceAdd] at hF hR hK ⊢
                obtain ⟨r16, -⟩ := hR
                generalize vs 16 = x16 at *
                subst r16
                go_simp
                exact hK _ _ _ hI (Step.refl hI) rfl
              · intro vs g w2 hI hF hR K hK
                simp only [Facts, fill, Act.put, z1, z2, z3, z4, z5, Nat.reduceAdd] at hF hR hK ⊢
                obtain ⟨r17, -⟩ := hR
                generalize vs 17 = x17 at *
                subst r17
                have k0 := hI.cell CR210_R6_0.out (fun _ h => by cases h)
                have k1 := hI.cell CR210_R6_1.out (fun _ h => by cases h)
                go_simp
                exact hK _ _ _ hI (Step.refl hI) rfl
              · intro vs g w2 hI hF hR K hK
                simp only [Facts, fill, Act.put, z1, z2, z3, z4, z5, Nat.reduceAdd] at hF hR hK ⊢
                obtain ⟨r17, -⟩ := hR
                generalize vs 17 = x17 at *
                subst r17
                have k0 := hI.cell CR18_R6_0.out (fun _ h => by cases h)
                have k1 := hI.cell CR18_R6_1.out (fun _ h => by cases h)
                go_simp
                exact hK _ _ _ hI (Step.refl hI) rfl
              · intro vs g w2 hI hF hR K hK
                simp only [Facts, fill, Act.put, z1, z2, z3, z4, z5, Nat.reduceAdd] at hF hR hK ⊢
                obtain ⟨r17, r18, r19, -⟩ := hR
                generalize vs 17 = x17, vs 18 = x18, vs 19 = x19 at *
                subst r17 r18 r19
                go_simp
                refine (gCross hI hw ((vecL_firm _ _) _ _ _ _ _ FR210_R6_0.out hI.keeps) ((vecL_firm _ _) _ _ _ _ _ FR18_R6_0.out hI.keeps) (by first | exact HE0.out | exact HE1.out | exact HE2.out | exact HE3.out | exact Fit.sv (by repeat first | exact S.diff (by first | assumption | (unfold S; decide)) (by first | assumption | (unfold S; decide)) | apply Fit.neg | (unfold Fit; decide +kernel))) (by first | exact HE0.out | exact HE1.out | exact HE2.out | exact HE3.out | exact Fit.sv (by repeat first | exact S.diff (by first | assumption | (unfold S; decide)) (by first | assumption | (unfold S; decide)) | apply Fit.neg | (unfold Fit; decide +kernel))) (by first | exact HE0.out | exact HE1.out | exact HE2.out | exact HE3.out | exact Fit.sv (by repeat first | exact S.diff (by first | assumption | (unfold S; decide)) (by first | assumption | (unfold S; decide)) | apply Fit.neg | (unfold Fit; decide +kernel))) (by first | exact HE0.out | exact HE1.out | exact HE2.out | exact HE3.out | exact Fit.sv (by repeat first | exact S.diff (by first | assumption | (unfold S; decide)) (by first | assumption | (unfold S; decide)) | apply Fit.neg | (unfold Fit; decide +kernel)))).mono ?_
                rintro e w3 ⟨v3, rfl, hv, hb⟩
                exact hK _ _ _ (hI.call hb) (Step.call hI hb) hv
              · intro vs g w2 hI hF hR K hK
                simp only [Facts, fill, Act.put, z1, z2, z3, z4, z5, Nat.reduceAdd] at hF hR hK ⊢
                obtain ⟨r17, -⟩ := hR
                generalize vs 17 = x17 at *
                subst r17
                go_simp
                exact hK _ _ _ hI (Step.refl hI) rfl
              · intro vs g w2 hI hF hR K hK
                simp only [Facts, fill, Act.put, z1, z2, z3, z4, z5, Nat.reduceAdd] at hF hR hK ⊢
                obtain ⟨r17, r20, r21, -⟩ := hR
                generalize vs 17 = x17, vs 20 = x20, vs 21 = x21 at *
                subst r17 r21
                go_simp
                refine (gSame r20 ((limR_firm _ _) _ _ _ _ _ FR512_R6_0.out hI.keeps) (by decide) (by first | rfl | decide +kernel | (congr 1; grind))).mono ?_
                rintro e w3 ⟨v3, rfl, hv, hb⟩
                exact hK _ _ _ (hI.call hb) (Step.call hI hb) hv
              · intro vs g w2 hI hF hR K hK
                simp only [Facts, fill, Act.put, z1, z2, z3, z4, z5, Nat.reduceAdd] at hF hR hK ⊢
                obtain ⟨r17, r22, -⟩ := hR
                generalize vs 17 = x17, vs 22 = x22 at *
                subst r17 r22
                go_simp
                exact hK _ _ _ hI (Step.refl hI) rfl
              · intro vs g w2 hI hF hR K hK
                simp only [Facts, fill, Act.put, z1, z2, z3, z4, z5, Nat.reduceAdd] at hF hR hK ⊢
                obtain ⟨r23, -⟩ := hR
                generalize vs 23 = x23 at *
                subst r23
                go_simp
                exact hK _ _ _ hI (Step.refl hI) rfl
            case fin =>
              intro vs g wR8 hI hR
              have r24 := hR 24 (by decide)
              simp only [fill, Act.put, z1, z2, z3, z4, z5] at r24 ⊢
              clear hR
              generalize vs 24 = x24 at *
              have Ca_R8_0 := Lib.hid (hI.cell Ca_R6_0.out (fun _ h => by cases h))
              have Ca_R8_1 := Lib.hid (hI.cell Ca_R6_1.out (fun _ h => by cases h))
              have Cb_R8_0 := Lib.hid (hI.cell Cb_R6_0.out (fun _ h => by cases h))
              have Cb_R8_1 := Lib.hid (hI.cell Cb_R6_1.out (fun _ h => by cases h))
              have Cc_R8_0 := Lib.hid (hI.cell Cc_R6_0.out (fun _ h => by cases h))
              have Cc_R8_1 := Lib.hid (hI.cell Cc_R6_1.out (fun _ h => by cases h))
              have CR17_R8_0 := Lib.hid (hI.cell CR17_R6_0.out (fun _ h => by cases h))
              have CR17_R8_1 := Lib.hid (hI.cell CR17_R6_1.out (fun _ h => by cases h))
              have FR17_R8_0 := Lib.hid ((vecL_firm _ _) _ _ _ _ _ FR17_R6_0.out hI.carry)
              have FR17_R8_1 := Lib.hid ((limR_firm _ _) _ _ _ _ _ FR17_R6_1.out hI.carry)
              have FR17_R8_2 := Lib.hid ((limR_firm _ _) _ _ _ _ _ FR17_R6_2.out hI.carry)
              have CR18_R8_0 := Lib.hid (hI.cell CR18_R6_0.out (fun _ h => by cases h))
              have CR18_R8_1 := Lib.hid (hI.cell CR18_R6_1.out (fun _ h => by cases h))
              have FR18_R8_0 := Lib.hid ((vecL_firm _ _) _ _ _ _ _ FR18_R6_0.out hI.carry)
              have FR18_R8_1 := Lib.hid ((limR_firm _ _) _ _ _ _ _ FR18_R6_1.out hI.carry)
              have FR18_R8_2 := Lib.hid ((limR_firm _ _) _ _ _ _ _ FR18_R6_2.out hI.carry)
              have CR29_R8_0 := Lib.hid (hI.cell CR29_R6_0.out (fun _ h => by cases h))
              have CR29_R8_1 := Lib.hid (hI.cell CR29_R6_1.out (fun _ h => by cases h))
              have FR29_R8_0 := Lib.hid ((vecL_firm _ _) _ _ _ _ _ FR29_R6_0.out hI.carry)
              have FR29_R8_1 := Lib.hid ((limR_firm _ _) _ _ _ _ _ FR29_R6_1.out hI.carry)
              have FR29_R8_2 := Lib.hid ((limR_firm _ _) _ _ _ _ _ FR29_R6_2.out hI.carry)
              have CR210_R8_0 := Lib.hid (hI.cell CR210_R6_0.out (fun _ h => by cases h))
              have CR210_R8_1 := Lib.hid (hI.cell CR210_R6_1.out (fun _ h => by cases h))
              have FR210_R8_0 := Lib.hid ((vecL_firm _ _) _ _ _ _ _ FR210_R6_0.out hI.carry)
              have FR210_R8_1 := Lib.hid ((limR_firm _ _) _ _ _ _ _ FR210_R6_1.out hI.carry)
              have FR210_R8_2 := Lib.hid ((limR_firm _ _) _ _ _ _ _ FR210_R6_2.out hI.carry)
              have FR511_R8_0 := Lib.hid ((limR_firm _ _) _ _ _ _ _ FR511_R6_0.out hI.carry)
              have FR512_R8_0 := Lib.hid ((limR_firm _ _) _ _ _ _ _ FR512_R6_0.out hI.carry)
              subst r24
              have hBR8 := hI.below
              have HCR8 := hI.next HCR6
              clear hI
              go_wp2
              go_ret
              exact ⟨rfl, hBR8⟩
end Go.Proofs.YtdcckjpeibnkbaaDoor
