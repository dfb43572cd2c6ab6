/-
  Law DiffProducts. (Written by law5.py.)
-/
import Derived.Test.YtdcckjpeibnkbaaDoorGen5b
namespace Go.Proofs.YtdcckjpeibnkbaaDoor
open Go.RowKit
set_option linter.unusedSimpArgs false
set_option linter.unusedVariables false

set_option maxRecDepth 100000 in
set_option maxHeartbeats 4000000 in
theorem law_diffProducts (xa ya xb yb xc yc : Int) (w : World) (hw : Wts w) (sxa : S xa) (sya : S ya) (sxb : S xb) (syb : S yb) (sxc : S xc) (syc : S yc) :
    Calls Tryd.prog 4 #[.agg #[.int .i64 xa, .int .i64 ya], .agg #[.int .i64 xb, .int .i64 yb], .agg #[.int .i64 xc, .int .i64 yc]] w fun e w' => e = .returned (.bool true) ∧ Below w.heap.size w w' := by
  obtain ⟨W, hW⟩ : ∃ W, W = ((w.alloc (.cells #[.int .i64 xa, .int .i64 ya] 23)).alloc (.cells #[.int .i64 xb, .int .i64 yb] 23)).alloc (.cells #[.int .i64 xc, .int .i64 yc] 23) := ⟨_, rfl⟩
  have hb0 : Below w.heap.size w W := by rw [hW]; exact ((((Below.refl _ _).alloc (Nat.le_refl _) _).alloc (by simp) _).alloc (by simp; omega) _)
  have Ca_W_0 := Lib.hid (show W.cell? ⟨w.heap.size, 0, none⟩ = some (.int .i64 xa) by rw [hW]; simp [go_sem])
  have Ca_W_1 := Lib.hid (show W.cell? ⟨w.heap.size, 1, none⟩ = some (.int .i64 ya) by rw [hW]; simp [go_sem])
  have Cb_W_0 := Lib.hid (show W.cell? ⟨w.heap.size + 1, 0, none⟩ = some (.int .i64 xb) by rw [hW]; simp [go_sem])
  have Cb_W_1 := Lib.hid (show W.cell? ⟨w.heap.size + 1, 1, none⟩ = some (.int .i64 yb) by rw [hW]; simp [go_sem])
  have Cc_W_0 := Lib.hid (show W.cell? ⟨w.heap.size + 1 + 1, 0, none⟩ = some (.int .i64 xc) by rw [hW]; simp [go_sem])
  have Cc_W_1 := Lib.hid (show W.cell? ⟨w.heap.size + 1 + 1, 1, none⟩ = some (.int .i64 yc) by rw [hW]; simp [go_sem])
  have HW := Lib.hid hW
  clear hW
  go_enter Tryd.func4, Tryd.ntmps4
  go_upto_region 1 with (fail)
  rw [← HW.out]
  refine box_plan (c := ⟨w, W, (fun _ => none)⟩) (Ctx.ok_none hb0) (by kernel_rfl) [[], [], [(11, 0), (12, 1)], [], [], [(14, 3), (15, 4)], [], [], [(7, 6), (13, 2)], [(8, 7), (16, 5)]] [(11, 0), (12, 1), (13, 2), (14, 3), (15, 4), (16, 5), (7, 6), (8, 7)] [
      (fun v _ _ => v = .agg #[.int .i64 xa, .int .i64 ya]),
      (fun v _ _ => v = .agg #[.int .i64 xb, .int .i64 yb]),
      VecL (xb - xa) (yb - ya),
      (fun v _ _ => v = .agg #[.int .i64 xa, .int .i64 ya]),
      (fun v _ _ => v = .agg #[.int .i64 xc, .int .i64 yc]),
      VecL (xc - xa) (yc - ya),
      PtrR 6 2,
      PtrR 7 2,
      (fun _ g w => BoxR 6 (VecL (xb - xa) (yb - ya)) g w),
      (fun _ g w => BoxR 7 (VecL (xc - xa) (yc - ya)) g w)
    ] (fun i => match i with | 6 => some 8 | 7 => some 9 | _ => none) (by kernel_rfl) (by kernel_rfl) ⟨stab_eq, stab_eq, stab_firm (vecL_firm _ _), stab_eq, stab_eq, stab_firm (vecL_firm _ _), stab_ptr, stab_ptr, stab_box (vecL_firm _ _) rfl, stab_box (vecL_firm _ _) rfl, trivial⟩ ?steps ?fin
  case steps =>
    refine ⟨?_, ?_, ?_, ?_, ?_, ?_, ?_, ?_, ?_, ?_, trivial⟩
    · intro vs g w2 hI hF hR K hK
      simp only [Facts, fill, Act.put, z1, z2, z3, z4, z5, Nat.reduceAdd] at hF hR hK ⊢
      have k0 := hI.cell Ca_W_0.out (fun _ h => by cases h)
      have k1 := hI.cell Ca_W_1.out (fun _ h => by cases h)
      go_simp
      exact hK _ _ _ hI (Step.refl hI) rfl
    · intro vs g w2 hI hF hR K hK
      simp only [Facts, fill, Act.put, z1, z2, z3, z4, z5, Nat.reduceAdd] at hF hR hK ⊢
      have k0 := hI.cell Cb_W_0.out (fun _ h => by cases h)
      have k1 := hI.cell Cb_W_1.out (fun _ h => by cases h)
      go_simp
      exact hK _ _ _ hI (Step.refl hI) rfl
    · intro vs g w2 hI hF hR K hK
      simp only [Facts, fill, Act.put, z1, z2, z3, z4, z5, Nat.reduceAdd] at hF hR hK ⊢
      obtain ⟨r0, r1, -⟩ := hR
      generalize vs 0 = x0, vs 1 = x1 at *
      subst r0 r1
      go_simp
      refine (gBetween hI hw (by first | assumption | (unfold S; decide)) (by first | assumption | (unfold S; decide)) (by first | assumption | (unfold S; decide)) (by first | assumption | (unfold S; decide))).mono ?_
      rintro e w3 ⟨v3, rfl, hv, hb⟩
      exact hK _ _ _ (hI.call hb) (Step.call hI hb) hv
    · intro vs g w2 hI hF hR K hK
      simp only [Facts, fill, Act.put, z1, z2, z3, z4, z5, Nat.reduceAdd] at hF hR hK ⊢
      have k0 := hI.cell Ca_W_0.out (fun _ h => by cases h)
      have k1 := hI.cell Ca_W_1.out (fun _ h => by cases h)
      go_simp
      exact hK _ _ _ hI (Step.refl hI) rfl
    · intro vs g w2 hI hF hR K hK
      simp only [Facts, fill, Act.put, z1, z2, z3, z4, z5, Nat.reduceAdd] at hF hR hK ⊢
      have k0 := hI.cell Cc_W_0.out (fun _ h => by cases h)
      have k1 := hI.cell Cc_W_1.out (fun _ h => by cases h)
      go_simp
      exact hK _ _ _ hI (Step.refl hI) rfl
    · intro vs g w2 hI hF hR K hK
      simp only [Facts, fill, Act.put, z1, z2, z3, z4, z5, Nat.reduceAdd] at hF hR hK ⊢
      obtain ⟨r3, r4, -⟩ := hR
      generalize vs 3 = x3, vs 4 = x4 at *
      subst r3 r4
      go_simp
      refine (gBetween hI hw (by first | assumption | (unfold S; decide)) (by first | assumption | (unfold S; decide)) (by first | assumption | (unfold S; decide)) (by first | assumption | (unfold S; decide))).mono ?_
      rintro e w3 ⟨v3, rfl, hv, hb⟩
      exact hK _ _ _ (hI.call hb) (Step.call hI hb) hv
    · intro vs g w2 hI hF hR K hK
      simp only [Facts, fill, Act.put, z1, z2, z3, z4, z5, Nat.reduceAdd] at hF hR hK ⊢
      go_simp
      exact hK _ _ _ (hI.alloc _ (hF (by decide)) _) (Step.alloc hI (hF (by decide)) _) ⟨_, rfl, more_at _ _ _, box2' _ _ _ _⟩
    · intro vs g w2 hI hF hR K hK
      simp only [Facts, fill, Act.put, z1, z2, z3, z4, z5, Nat.reduceAdd] at hF hR hK ⊢
      go_simp
      exact hK _ _ _ (hI.alloc _ (hF (by decide)) _) (Step.alloc hI (hF (by decide)) _) ⟨_, rfl, more_at _ _ _, box2' _ _ _ _⟩
    · intro vs g w2 hI hF hR K hK
      simp only [Facts, fill, Act.put, z1, z2, z3, z4, z5, Nat.reduceAdd] at hF hR hK ⊢
      obtain ⟨r6, r2, -⟩ := hR
      generalize vs 6 = x6, vs 2 = x2 at *
      obtain ⟨k, rfl, hk, hbx⟩ := r6
      have qx := r2
      obtain ⟨A8, c8, B8, d8, rfl⟩ := vecL_open r2
      obtain ⟨⟨u0, k0⟩, f0⟩ := hbx 0 (by decide)
      obtain ⟨⟨u1, k1⟩, f1⟩ := hbx 1 (by decide)
      go_simp
      have ht := (((Touch.refl w2 k).set 0 (.slice A8 2 c8)).set 1 (.slice B8 2 d8))
      exact hK undef _ _ (hI.store (by decide) hk ht) (Step.store hI rfl hk ht) ⟨k, .agg #[.slice A8 2 c8, .slice B8 2 d8], hk, by rw [ht.size]; exact hI.lt _ _ hk, cells2 k0 k1 (.slice A8 2 c8) (.slice B8 2 d8), ((vecL_firm _ _) _ _ _ _ _ qx (ht.keeps hk))⟩
    · intro vs g w2 hI hF hR K hK
      simp only [Facts, fill, Act.put, z1, z2, z3, z4, z5, Nat.reduceAdd] at hF hR hK ⊢
      obtain ⟨r7, r5, -⟩ := hR
      generalize vs 7 = x7, vs 5 = x5 at *
      obtain ⟨k, rfl, hk, hbx⟩ := r7
      have qx := r5
      obtain ⟨A9, c9, B9, d9, rfl⟩ := vecL_open r5
      obtain ⟨⟨u0, k0⟩, f0⟩ := hbx 0 (by decide)
      obtain ⟨⟨u1, k1⟩, f1⟩ := hbx 1 (by decide)
      go_simp
      have ht := (((Touch.refl w2 k).set 0 (.slice A9 2 c9)).set 1 (.slice B9 2 d9))
      exact hK undef _ _ (hI.store (by decide) hk ht) (Step.store hI rfl hk ht) ⟨k, .agg #[.slice A9 2 c9, .slice B9 2 d9], hk, by rw [ht.size]; exact hI.lt _ _ hk, cells2 k0 k1 (.slice A9 2 c9) (.slice B9 2 d9), ((vecL_firm _ _) _ _ _ _ _ qx (ht.keeps hk))⟩
  case fin =>
    intro vs g wR1 hI hR
    have r6 := hR 6 (by decide)
    have r7 := hR 7 (by decide)
    have r8 := hR 8 (by decide)
    have r9 := hR 9 (by decide)
    simp only [fill, Act.put, z1, z2, z3, z4, z5] at r6 r7 r8 r9 ⊢
    clear hR
    generalize vs 6 = x6 at *
    generalize vs 7 = x7 at *
    generalize vs 8 = x8 at *
    generalize vs 9 = x9 at *
    have Ca_R1_0 := Lib.hid (hI.cell Ca_W_0.out (fun _ h => by cases h))
    have Ca_R1_1 := Lib.hid (hI.cell Ca_W_1.out (fun _ h => by cases h))
    have Cb_R1_0 := Lib.hid (hI.cell Cb_W_0.out (fun _ h => by cases h))
    have Cb_R1_1 := Lib.hid (hI.cell Cb_W_1.out (fun _ h => by cases h))
    have Cc_R1_0 := Lib.hid (hI.cell Cc_W_0.out (fun _ h => by cases h))
    have Cc_R1_1 := Lib.hid (hI.cell Cc_W_1.out (fun _ h => by cases h))
    obtain ⟨pR17, rfl, hkR17, -⟩ := r6
    obtain ⟨qR17, uR17, hqR17, -, hcR17, hrR17⟩ := r8
    rw [hkR17] at hqR17
    injection hqR17 with hqR17
    subst hqR17
    have qfR17 := hrR17
    obtain ⟨AvR17, cvR17, BvR17, dvR17, rfl⟩ := vecL_open hrR17
    have FR17_R1_0 := Lib.hid ((vecL_firm _ _) _ _ _ _ _ qfR17 hI.back)
    clear qfR17
    have FR17_R1_1 := Lib.hid (vecL_x FR17_R1_0.out)
    have FR17_R1_2 := Lib.hid (vecL_y FR17_R1_0.out)
    have CR17_R1_0 := Lib.hid (hcR17 0 _ rfl)
    have CR17_R1_1 := Lib.hid (hcR17 1 _ rfl)
    clear hcR17 hkR17
    obtain ⟨pR18, rfl, hkR18, -⟩ := r7
    obtain ⟨qR18, uR18, hqR18, -, hcR18, hrR18⟩ := r9
    rw [hkR18] at hqR18
    injection hqR18 with hqR18
    subst hqR18
    have qfR18 := hrR18
    obtain ⟨AvR18, cvR18, BvR18, dvR18, rfl⟩ := vecL_open hrR18
    have FR18_R1_0 := Lib.hid ((vecL_firm _ _) _ _ _ _ _ qfR18 hI.back)
    clear qfR18
    have FR18_R1_1 := Lib.hid (vecL_x FR18_R1_0.out)
    have FR18_R1_2 := Lib.hid (vecL_y FR18_R1_0.out)
    have CR18_R1_0 := Lib.hid (hcR18 0 _ rfl)
    have CR18_R1_1 := Lib.hid (hcR18 1 _ rfl)
    clear hcR18 hkR18
    have hBR1 := hI.below
    have HCR1 := hI.next (Ctx.ok_none hb0)
    clear hI
    go_upto_region 2 with (fail)
    refine box_plan (c := ⟨w, wR1, (fun _ => none)⟩) HCR1 (by kernel_rfl) [[], [], [(17, 0), (18, 1)], [], [], [(20, 3), (21, 4)], [], [], [(9, 6), (19, 2)], [(10, 7), (22, 5)]] [(17, 0), (18, 1), (19, 2), (20, 3), (21, 4), (22, 5), (9, 6), (10, 7)] [
        (fun v _ _ => v = .agg #[.int .i64 xa, .int .i64 ya]),
        (fun v _ _ => v = .agg #[.int .i64 xb, .int .i64 yb]),
        VecN 5 (xb - xa) (yb - ya),
        (fun v _ _ => v = .agg #[.int .i64 xa, .int .i64 ya]),
        (fun v _ _ => v = .agg #[.int .i64 xc, .int .i64 yc]),
        VecN 5 (xc - xa) (yc - ya),
        PtrR 6 4,
        PtrR 7 4,
        (fun _ g w => BoxR 6 (VecN 5 (xb - xa) (yb - ya)) g w),
        (fun _ g w => BoxR 7 (VecN 5 (xc - xa) (yc - ya)) g w)
      ] (fun i => match i with | 6 => some 8 | 7 => some 9 | _ => none) (by kernel_rfl) (by kernel_rfl) ⟨stab_eq, stab_eq, stab_firm (vecN_firm _ _ _), stab_eq, stab_eq, stab_firm (vecN_firm _ _ _), stab_ptr, stab_ptr, stab_box (vecN_firm _ _ _) rfl, stab_box (vecN_firm _ _ _) rfl, trivial⟩ ?steps ?fin
    case steps =>
      refine ⟨?_, ?_, ?_, ?_, ?_, ?_, ?_, ?_, ?_, ?_, trivial⟩
      · intro vs g w2 hI hF hR K hK
        simp only [Facts, fill, Act.put, z1, z2, z3, z4, z5, Nat.reduceAdd] at hF hR hK ⊢
        have k0 := hI.cell Ca_R1_0.out (fun _ h => by cases h)
        have k1 := hI.cell Ca_R1_1.out (fun _ h => by cases h)
        go_simp
        exact hK _ _ _ hI (Step.refl hI) rfl
      · intro vs g w2 hI hF hR K hK
        simp only [Facts, fill, Act.put, z1, z2, z3, z4, z5, Nat.reduceAdd] at hF hR hK ⊢
        have k0 := hI.cell Cb_R1_0.out (fun _ h => by cases h)
        have k1 := hI.cell Cb_R1_1.out (fun _ h => by cases h)
        go_simp
        exact hK _ _ _ hI (Step.refl hI) rfl
      · intro vs g w2 hI hF hR K hK
        simp only [Facts, fill, Act.put, z1, z2, z3, z4, z5, Nat.reduceAdd] at hF hR hK ⊢
        obtain ⟨r0, r1, -⟩ := hR
        generalize vs 0 = x0, vs 1 = x1 at *
        subst r0 r1
        go_simp
        refine (gRefBetween hI (by first | assumption | (unfold S; decide)) (by first | assumption | (unfold S; decide)) (by first | assumption | (unfold S; decide)) (by first | assumption | (unfold S; decide))).mono ?_
        rintro e w3 ⟨v3, rfl, hv, hb⟩
        exact hK _ _ _ (hI.call hb) (Step.call hI hb) hv
      · intro vs g w2 hI hF hR K hK
        simp only [Facts, fill, Act.put, z1, z2, z3, z4, z5, Nat.reduceAdd] at hF hR hK ⊢
        have k0 := hI.cell Ca_R1_0.out (fun _ h => by cases h)
        have k1 := hI.cell Ca_R1_1.out (fun _ h => by cases h)
        go_simp
        exact hK _ _ _ hI (Step.refl hI) rfl
      · intro vs g w2 hI hF hR K hK
        simp only [Facts, fill, Act.put, z1, z2, z3, z4, z5, Nat.reduceAdd] at hF hR hK ⊢
        have k0 := hI.cell Cc_R1_0.out (fun _ h => by cases h)
        have k1 := hI.cell Cc_R1_1.out (fun _ h => by cases h)
        go_simp
        exact hK _ _ _ hI (Step.refl hI) rfl
      · intro vs g w2 hI hF hR K hK
        simp only [Facts, fill, Act.put, z1, z2, z3, z4, z5, Nat.reduceAdd] at hF hR hK ⊢
        obtain ⟨r3, r4, -⟩ := hR
        generalize vs 3 = x3, vs 4 = x4 at *
        subst r3 r4
        go_simp
        refine (gRefBetween hI (by first | assumption | (unfold S; decide)) (by first | assumption | (unfold S; decide)) (by first | assumption | (unfold S; decide)) (by first | assumption | (unfold S; decide))).mono ?_
        rintro e w3 ⟨v3, rfl, hv, hb⟩
        exact hK _ _ _ (hI.call hb) (Step.call hI hb) hv
      · intro vs g w2 hI hF hR K hK
        simp only [Facts, fill, Act.put, z1, z2, z3, z4, z5, Nat.reduceAdd] at hF hR hK ⊢
        go_simp
        exact hK _ _ _ (hI.alloc _ (hF (by decide)) _) (Step.alloc hI (hF (by decide)) _) ⟨_, rfl, more_at _ _ _, box4' _ _ _ _ _ _⟩
      · intro vs g w2 hI hF hR K hK
        simp only [Facts, fill, Act.put, z1, z2, z3, z4, z5, Nat.reduceAdd] at hF hR hK ⊢
        go_simp
        exact hK _ _ _ (hI.alloc _ (hF (by decide)) _) (Step.alloc hI (hF (by decide)) _) ⟨_, rfl, more_at _ _ _, box4' _ _ _ _ _ _⟩
      · intro vs g w2 hI hF hR K hK
        simp only [Facts, fill, Act.put, z1, z2, z3, z4, z5, Nat.reduceAdd] at hF hR hK ⊢
        obtain ⟨r6, r2, -⟩ := hR
        generalize vs 6 = x6, vs 2 = x2 at *
        obtain ⟨k, rfl, hk, hbx⟩ := r6
        have qx := r2
        obtain ⟨s8, A8, n8, c8, t8, B8, m8, d8, rfl⟩ := vecN_open r2
        obtain ⟨⟨u0, k0⟩, f0⟩ := hbx 0 (by decide)
        obtain ⟨⟨u1, k1⟩, f1⟩ := hbx 1 (by decide)
        obtain ⟨⟨u2, k2⟩, f2⟩ := hbx 2 (by decide)
        obtain ⟨⟨u3, k3⟩, f3⟩ := hbx 3 (by decide)
        go_simp
        have ht := (((((Touch.refl w2 k).set 0 (.int .i64 s8)).set 1 (.slice A8 n8 c8)).set 2 (.int .i64 t8)).set 3 (.slice B8 m8 d8))
        exact hK undef _ _ (hI.store (by decide) hk ht) (Step.store hI rfl hk ht) ⟨k, .agg #[.int .i64 s8, .slice A8 n8 c8, .int .i64 t8, .slice B8 m8 d8], hk, by rw [ht.size]; exact hI.lt _ _ hk, cells4 k0 k1 k2 k3 (.int .i64 s8) (.slice A8 n8 c8) (.int .i64 t8) (.slice B8 m8 d8), ((vecN_firm _ _ _) _ _ _ _ _ qx (ht.keeps hk))⟩
      · intro vs g w2 hI hF hR K hK
        simp only [Facts, fill, Act.put, z1, z2, z3, z4, z5, Nat.reduceAdd] at hF hR hK ⊢
        obtain ⟨r7, r5, -⟩ := hR
        generalize vs 7 = x7, vs 5 = x5 at *
        obtain ⟨k, rfl, hk, hbx⟩ := r7
        have qx := r5
        obtain ⟨s9, A9, n9, c9, t9, B9, m9, d9, rfl⟩ := vecN_open r5
        obtain ⟨⟨u0, k0⟩, f0⟩ := hbx 0 (by decide)
        obtain ⟨⟨u1, k1⟩, f1⟩ := hbx 1 (by decide)
        obtain ⟨⟨u2, k2⟩, f2⟩ := hbx 2 (by decide)
        obtain ⟨⟨u3, k3⟩, f3⟩ := hbx 3 (by decide)
        go_simp
        have ht := (((((Touch.refl w2 k).set 0 (.int .i64 s9)).set 1 (.slice A9 n9 c9)).set 2 (.int .i64 t9)).set 3 (.slice B9 m9 d9))
        exact hK undef _ _ (hI.store (by decide) hk ht) (Step.store hI rfl hk ht) ⟨k, .agg #[.int .i64 s9, .slice A9 n9 c9, .int .i64 t9, .slice B9 m9 d9], hk, by rw [ht.size]; exact hI.lt _ _ hk, cells4 k0 k1 k2 k3 (.int .i64 s9) (.slice A9 n9 c9) (.int .i64 t9) (.slice B9 m9 d9), ((vecN_firm _ _ _) _ _ _ _ _ qx (ht.keeps hk))⟩
    case fin =>
      intro vs g wR2 hI hR
      have r6 := hR 6 (by decide)
      have r7 := hR 7 (by decide)
      have r8 := hR 8 (by decide)
      have r9 := hR 9 (by decide)
      simp only [fill, Act.put, z1, z2, z3, z4, z5] at r6 r7 r8 r9 ⊢
      clear hR
      generalize vs 6 = x6 at *
      generalize vs 7 = x7 at *
      generalize vs 8 = x8 at *
      generalize vs 9 = x9 at *
      have Ca_R2_0 := Lib.hid (hI.cell Ca_R1_0.out (fun _ h => by cases h))
      have Ca_R2_1 := Lib.hid (hI.cell Ca_R1_1.out (fun _ h => by cases h))
      have Cb_R2_0 := Lib.hid (hI.cell Cb_R1_0.out (fun _ h => by cases h))
      have Cb_R2_1 := Lib.hid (hI.cell Cb_R1_1.out (fun _ h => by cases h))
      have Cc_R2_0 := Lib.hid (hI.cell Cc_R1_0.out (fun _ h => by cases h))
      have Cc_R2_1 := Lib.hid (hI.cell Cc_R1_1.out (fun _ h => by cases h))
      have CR17_R2_0 := Lib.hid (hI.cell CR17_R1_0.out (fun _ h => by cases h))
      have CR17_R2_1 := Lib.hid (hI.cell CR17_R1_1.out (fun _ h => by cases h))
      have FR17_R2_0 := Lib.hid ((vecL_firm _ _) _ _ _ _ _ FR17_R1_0.out hI.carry)
      have FR17_R2_1 := Lib.hid ((limR_firm _ _) _ _ _ _ _ FR17_R1_1.out hI.carry)
      have FR17_R2_2 := Lib.hid ((limR_firm _ _) _ _ _ _ _ FR17_R1_2.out hI.carry)
      have CR18_R2_0 := Lib.hid (hI.cell CR18_R1_0.out (fun _ h => by cases h))
      have CR18_R2_1 := Lib.hid (hI.cell CR18_R1_1.out (fun _ h => by cases h))
      have FR18_R2_0 := Lib.hid ((vecL_firm _ _) _ _ _ _ _ FR18_R1_0.out hI.carry)
      have FR18_R2_1 := Lib.hid ((limR_firm _ _) _ _ _ _ _ FR18_R1_1.out hI.carry)
      have FR18_R2_2 := Lib.hid ((limR_firm _ _) _ _ _ _ _ FR18_R1_2.out hI.carry)
      obtain ⟨pR29, rfl, hkR29, -⟩ := r6
      obtain ⟨qR29, uR29, hqR29, -, hcR29, hrR29⟩ := r8
      rw [hkR29] at hqR29
      injection hqR29 with hqR29
      subst hqR29
      have qfR29 := hrR29
      obtain ⟨svR29, AvR29, nvR29, cvR29, tvR29, BvR29, mvR29, dvR29, rfl⟩ := vecN_open hrR29
      have FR29_R2_0 := Lib.hid ((vecN_firm _ _ _) _ _ _ _ _ qfR29 hI.back)
      clear qfR29
      have FR29_R2_1 := Lib.hid (vecN_x FR29_R2_0.out)
      have FR29_R2_3 := Lib.hid (vecN_y FR29_R2_0.out)
      have CR29_R2_0 := Lib.hid (hcR29 0 _ rfl)
      have CR29_R2_1 := Lib.hid (hcR29 1 _ rfl)
      have CR29_R2_2 := Lib.hid (hcR29 2 _ rfl)
      have CR29_R2_3 := Lib.hid (hcR29 3 _ rfl)
      clear hcR29 hkR29
      obtain ⟨pR210, rfl, hkR210, -⟩ := r7
      obtain ⟨qR210, uR210, hqR210, -, hcR210, hrR210⟩ := r9
      rw [hkR210] at hqR210
      injection hqR210 with hqR210
      subst hqR210
      have qfR210 := hrR210
      obtain ⟨svR210, AvR210, nvR210, cvR210, tvR210, BvR210, mvR210, dvR210, rfl⟩ := vecN_open hrR210
      have FR210_R2_0 := Lib.hid ((vecN_firm _ _ _) _ _ _ _ _ qfR210 hI.back)
      clear qfR210
      have FR210_R2_1 := Lib.hid (vecN_x FR210_R2_0.out)
      have FR210_R2_3 := Lib.hid (vecN_y FR210_R2_0.out)
      have CR210_R2_0 := Lib.hid (hcR210 0 _ rfl)
      have CR210_R2_1 := Lib.hid (hcR210 1 _ rfl)
      have CR210_R2_2 := Lib.hid (hcR210 2 _ rfl)
      have CR210_R2_3 := Lib.hid (hcR210 3 _ rfl)
      clear hcR210 hkR210
      have hBR2 := hI.below
      have HCR2 := hI.next HCR1
      clear hI
      go_upto_region 3 with (fail)
      refine box_plan (c := ⟨w, wR2, (fun _ => none)⟩) HCR2 (by kernel_rfl) [[], [(23, 0)], [(24, 1)], [(24, 1)], [(24, 1), (25, 2), (26, 3)], [(24, 1)], [(24, 1)], [(24, 1), (28, 5), (29, 6)], [(24, 1), (27, 4), (30, 7)], [(24, 1), (31, 8)], [(32, 9)], [(33, 10)], [(33, 10)], [(33, 10), (34, 11), (35, 12)], [(33, 10)], [(33, 10)], [(33, 10), (37, 14), (38, 15)], [(33, 10), (36, 13), (39, 16)], [(33, 10), (40, 17)], [(41, 18)], [(42, 19)], [(42, 19), (43, 20)], [(42, 19)], [(42, 19)], [(42, 19), (45, 22), (46, 23)], [(42, 19), (44, 21), (47, 24)], [(42, 19), (48, 25)], [(49, 26)]] [(23, 0), (24, 1), (25, 2), (26, 3), (27, 4), (28, 5), (29, 6), (30, 7), (31, 8), (32, 9), (33, 10), (34, 11), (35, 12), (36, 13), (37, 14), (38, 15), (39, 16), (40, 17), (41, 18), (42, 19), (43, 20), (44, 21), (45, 22), (46, 23), (47, 24), (48, 25), (49, 26), (6, 27)] [
          (fun v _ _ => v = .bool true),
          (fun v _ _ => v = .bool true),
          (fun v _ _ => v = .agg #[.slice AvR17 2 cvR17, .slice BvR17 2 dvR17]),
          (fun v _ _ => v = .agg #[.slice AvR18 2 cvR18, .slice BvR18 2 dvR18]),
          LimR 4 ((xb - xa) * (yc - ya) - (yb - ya) * (xc - xa)),
          (fun v _ _ => v = .agg #[.int .i64 svR29, .slice AvR29 nvR29 cvR29, .int .i64 tvR29, .slice BvR29 mvR29 dvR29]),
          (fun v _ _ => v = .agg #[.int .i64 svR210, .slice AvR210 nvR210 cvR210, .int .i64 tvR210, .slice BvR210 mvR210 dvR210]),
          NumG (5 + 5 + 1) ((xb - xa) * (yc - ya) - (yb - ya) * (xc - xa)),
          (fun v _ _ => v = .bool true),
          (fun v _ _ => v = .bool true),
          (fun v _ _ => v = .bool true),
          (fun v _ _ => v = .agg #[.slice AvR17 2 cvR17, .slice BvR17 2 dvR17]),
          (fun v _ _ => v = .agg #[.slice AvR18 2 cvR18, .slice BvR18 2 dvR18]),
          LimR 4 ((xb - xa) * (xc - xa) + (yb - ya) * (yc - ya)),
          (fun v _ _ => v = .agg #[.int .i64 svR29, .slice AvR29 nvR29 cvR29, .int .i64 tvR29, .slice BvR29 mvR29 dvR29]),
          (fun v _ _ => v = .agg #[.int .i64 svR210, .slice AvR210 nvR210 cvR210, .int .i64 tvR210, .slice BvR210 mvR210 dvR210]),
          NumG (5 + 5 + 1) ((xb - xa) * (xc - xa) + (yb - ya) * (yc - ya)),
          (fun v _ _ => v = .bool true),
          (fun v _ _ => v = .bool true),
          (fun v _ _ => v = .bool true),
          (fun v _ _ => v = .agg #[.slice AvR17 2 cvR17, .slice BvR17 2 dvR17]),
          LimR 4 ((xb - xa) * (xb - xa) + (yb - ya) * (yb - ya)),
          (fun v _ _ => v = .agg #[.int .i64 svR29, .slice AvR29 nvR29 cvR29, .int .i64 tvR29, .slice BvR29 mvR29 dvR29]),
          (fun v _ _ => v = .agg #[.int .i64 svR29, .slice AvR29 nvR29 cvR29, .int .i64 tvR29, .slice BvR29 mvR29 dvR29]),
          NumG (5 + 5 + 1) ((xb - xa) * (xb - xa) + (yb - ya) * (yb - ya)),
          (fun v _ _ => v = .bool true),
          (fun v _ _ => v = .bool true),
          (fun v _ _ => v = .bool true)
        ] (fun _ => none) (by kernel_rfl) (by kernel_rfl) ⟨stab_eq, stab_eq, stab_eq, stab_eq, stab_firm (limR_firm _ _), stab_eq, stab_eq, stab_firm (numG_firm _ _), stab_eq, stab_eq, stab_eq, stab_eq, stab_eq, stab_firm (limR_firm _ _), stab_eq, stab_eq, stab_firm (numG_firm _ _), stab_eq, stab_eq, stab_eq, stab_eq, stab_firm (limR_firm _ _), stab_eq, stab_eq, stab_firm (numG_firm _ _), stab_eq, stab_eq, stab_eq, trivial⟩ ?steps ?fin
      case steps =>
        refine ⟨?_, ?_, ?_, ?_, ?_, ?_, ?_, ?_, ?_, ?_, ?_, ?_, ?_, ?_, ?_, ?_, ?_, ?_, ?_, ?_, ?_, ?_, ?_, ?_, ?_, ?_, ?_, ?_, trivial⟩
        · intro vs g w2 hI hF hR K hK
          simp only [Facts, fill, Act.put, z1, z2, z3, z4, z5, Nat.reduceAdd] at hF hR hK ⊢
          go_simp
          refine (gAlive5 hI hw).mono ?_
          rintro e w3 ⟨v3, rfl, hv, hb⟩
          exact hK _ _ _ (hI.call hb) (Step.call hI hb) hv
        · intro vs g w2 hI hF hR K hK
          simp only [Facts, fill, Act.put, z1, z2, z3, z4, z5, Nat.reduceAdd] at hF hR hK ⊢
          obtain ⟨r0, -⟩ := hR
          generalize vs 0 = x0 at *
          subst r0
          go_simp
          exact hK _ _ _ hI (Step.refl hI) rfl
        · intro vs g w2 hI hF hR K hK
          simp only [Facts, fill, Act.put, z1, z2, z3, z4, z5, Nat.reduceAdd] at hF hR hK ⊢
          obtain ⟨r1, -⟩ := hR
          generalize vs 1 = x1 at *
          subst r1
          have k0 := hI.cell CR17_R2_0.out (fun _ h => by cases h)
          have k1 := hI.cell CR17_R2_1.out (fun _ h => by cases h)
          go_simp
          exact hK _ _ _ hI (Step.refl hI) rfl
        · intro vs g w2 hI hF hR K hK
          simp only [Facts, fill, Act.put, z1, z2, z3, z4, z5, Nat.reduceAdd] at hF hR hK ⊢
          obtain ⟨r1, -⟩ := hR
          generalize vs 1 = x1 at *
          subst r1
          have k0 := hI.cell CR18_R2_0.out (fun _ h => by cases h)
          have k1 := hI.cell CR18_R2_1.out (fun _ h => by cases h)
          go_simp
          exact hK _ _ _ hI (Step.refl hI) rfl
        · intro vs g w2 hI hF hR K hK
          simp only [Facts, fill, Act.put, z1, z2, z3, z4, z5, Nat.reduceAdd] at hF hR hK ⊢
          obtain ⟨r1, r2, r3, -⟩ := hR
          generalize vs 1 = x1, vs 2 = x2, vs 3 = x3 at *
          subst r1 r2 r3
          go_simp
          refine (gCross hI hw ((vecL_firm _ _) _ _ _ _ _ FR17_R2_0.out hI.keeps) ((vecL_firm _ _) _ _ _ _ _ FR18_R2_0.out hI.keeps) (by first | exact HE0.out | exact HE1.out | exact HE2.out | exact HE3.out | exact Fit.sv (by repeat first | exact S.diff (by first | assumption | (unfold S; decide)) (by first | assumption | (unfold S; decide)) | apply Fit.neg | (unfold Fit; decide +kernel))) (by first | exact HE0.out | exact HE1.out | exact HE2.out | exact HE3.out | exact Fit.sv (by repeat first | exact S.diff (by first | assumption | (unfold S; decide)) (by first | assumption | (unfold S; decide)) | apply Fit.neg | (unfold Fit; decide +kernel))) (by first | exact HE0.out | exact HE1.out | exact HE2.out | exact HE3.out | exact Fit.sv (by repeat first | exact S.diff (by first | assumption | (unfold S; decide)) (by first | assumption | (unfold S; decide)) | apply Fit.neg | (unfold Fit; decide +kernel))) (by first | exact HE0.out | exact HE1.out | exact HE2.out | exact HE3.out | exact Fit.sv (by repeat first | exact S.diff (by first | assumption | (unfold S; decide)) (by first | assumption | (unfold S; decide)) | apply Fit.neg | (unfold Fit; decide +kernel)))).mono ?_
          rintro e w3 ⟨v3, rfl, hv, hb⟩
          exact hK _ _ _ (hI.call hb) (Step.call hI hb) hv
        · intro vs g w2 hI hF hR K hK
          simp only [Facts, fill, Act.put, z1, z2, z3, z4, z5, Nat.reduceAdd] at hF hR hK ⊢
          obtain ⟨r1, -⟩ := hR
          generalize vs 1 = x1 at *
          subst r1
          have k0 := hI.cell CR29_R2_0.out (fun _ h => by cases h)
          have k1 := hI.cell CR29_R2_1.out (fun _ h => by cases h)
          have k2 := hI.cell CR29_R2_2.out (fun _ h => by cases h)
          have k3 := hI.cell CR29_R2_3.out (fun _ h => by cases h)
          go_simp
          exact hK _ _ _ hI (Step.refl hI) rfl
        · intro vs g w2 hI hF hR K hK
          simp only [Facts, fill, Act.put, z1, z2, z3, z4, z5, Nat.reduceAdd] at hF hR hK ⊢
          obtain ⟨r1, -⟩ := hR
          generalize vs 1 = x1 at *
          subst r1
          have k0 := hI.cell CR210_R2_0.out (fun _ h => by cases h)
          have k1 := hI.cell CR210_R2_1.out (fun _ h => by cases h)
          have k2 := hI.cell CR210_R2_2.out (fun _ h => by cases h)
          have k3 := hI.cell CR210_R2_3.out (fun _ h => by cases h)
          go_simp
          exact hK _ _ _ hI (Step.refl hI) rfl
        · intro vs g w2 hI hF hR K hK
          simp only [Facts, fill, Act.put, z1, z2, z3, z4, z5, Nat.reduceAdd] at hF hR hK ⊢
          obtain ⟨r1, r5, r6, -⟩ := hR
          generalize vs 1 = x1, vs 5 = x5, vs 6 = x6 at *
          subst r1 r5 r6
          go_simp
          refine (gRefCross hI ((vecN_firm _ _ _) _ _ _ _ _ FR29_R2_0.out hI.keeps) ((vecN_firm _ _ _) _ _ _ _ _ FR210_R2_0.out hI.keeps) (by decide) (by decide)).mono ?_
          rintro e w3 ⟨v3, rfl, hv, hb⟩
          exact hK _ _ _ (hI.call hb) (Step.call hI hb) hv
        · intro vs g w2 hI hF hR K hK
          simp only [Facts, fill, Act.put, z1, z2, z3, z4, z5, Nat.reduceAdd] at hF hR hK ⊢
          obtain ⟨r1, r4, r7, -⟩ := hR
          generalize vs 1 = x1, vs 4 = x4, vs 7 = x7 at *
          subst r1
          go_simp
          refine (gLawLimbs hI r4 r7 (by decide) (by decide) (by first | rfl | grind)).mono ?_
          rintro e w3 ⟨v3, rfl, hv, hb⟩
          exact hK _ _ _ (hI.call hb) (Step.call hI hb) hv
        · intro vs g w2 hI hF hR K hK
          simp only [Facts, fill, Act.put, z1, z2, z3, z4, z5, Nat.reduceAdd] at hF hR hK ⊢
          obtain ⟨r1, r8, -⟩ := hR
          generalize vs 1 = x1, vs 8 = x8 at *
          subst r1 r8
          go_simp
          exact hK _ _ _ hI (Step.refl hI) rfl
        · intro vs g w2 hI hF hR K hK
          simp only [Facts, fill, Act.put, z1, z2, z3, z4, z5, Nat.reduceAdd] at hF hR hK ⊢
          obtain ⟨r9, -⟩ := hR
          generalize vs 9 = x9 at *
          subst r9
          go_simp
          exact hK _ _ _ hI (Step.refl hI) rfl
        · intro vs g w2 hI hF hR K hK
          simp only [Facts, fill, Act.put, z1, z2, z3, z4, z5, Nat.reduceAdd] at hF hR hK ⊢
          obtain ⟨r10, -⟩ := hR
          generalize vs 10 = x10 at *
          subst r10
          have k0 := hI.cell CR17_R2_0.out (fun _ h => by cases h)
          have k1 := hI.cell CR17_R2_1.out (fun _ h => by cases h)
          go_simp
          exact hK _ _ _ hI (Step.refl hI) rfl
        · intro vs g w2 hI hF hR K hK
          simp only [Facts, fill, Act.put, z1, z2, z3, z4, z5, Nat.reduceAdd] at hF hR hK ⊢
          obtain ⟨r10, -⟩ := hR
          generalize vs 10 = x10 at *
          subst r10
          have k0 := hI.cell CR18_R2_0.out (fun _ h => by cases h)
          have k1 := hI.cell CR18_R2_1.out (fun _ h => by cases h)
          go_simp
          exact hK _ _ _ hI (Step.refl hI) rfl
        · intro vs g w2 hI hF hR K hK
          simp only [Facts, fill, Act.put, z1, z2, z3, z4, z5, Nat.reduceAdd] at hF hR hK ⊢
          obtain ⟨r10, r11, r12, -⟩ := hR
          generalize vs 10 = x10, vs 11 = x11, vs 12 = x12 at *
          subst r10 r11 r12
          go_simp
          refine (gDot hI hw ((vecL_firm _ _) _ _ _ _ _ FR17_R2_0.out hI.keeps) ((vecL_firm _ _) _ _ _ _ _ FR18_R2_0.out hI.keeps) (by first | exact HE0.out | exact HE1.out | exact HE2.out | exact HE3.out | exact Fit.sv (by repeat first | exact S.diff (by first | assumption | (unfold S; decide)) (by first | assumption | (unfold S; decide)) | apply Fit.neg | (unfold Fit; decide +kernel))) (by first | exact HE0.out | exact HE1.out | exact HE2.out | exact HE3.out | exact Fit.sv (by repeat first | exact S.diff (by first | assumption | (unfold S; decide)) (by first | assumption | (unfold S; decide)) | apply Fit.neg | (unfold Fit; decide +kernel))) (by first | exact HE0.out | exact HE1.out | exact HE2.out | exact HE3.out | exact Fit.sv (by repeat first | exact S.diff (by first | assumption | (unfold S; decide)) (by first | assumption | (unfold S; decide)) | apply Fit.neg | (unfold Fit; decide +kernel))) (by first | exact HE0.out | exact HE1.out | exact HE2.out | exact HE3.out | exact Fit.sv (by repeat first | exact S.diff (by first | assumption | (unfold S; decide)) (by first | assumption | (unfold S; decide)) | apply Fit.neg | (unfold Fit; decide +kernel)))).mono ?_
          rintro e w3 ⟨v3, rfl, hv, hb⟩
          exact hK _ _ _ (hI.call hb) (Step.call hI hb) hv
        · intro vs g w2 hI hF hR K hK
          simp only [Facts, fill, Act.put, z1, z2, z3, z4, z5, Nat.reduceAdd] at hF hR hK ⊢
          obtain ⟨r10, -⟩ := hR
          generalize vs 10 = x10 at *
          subst r10
          have k0 := hI.cell CR29_R2_0.out (fun _ h => by cases h)
          have k1 := hI.cell CR29_R2_1.out (fun _ h => by cases h)
          have k2 := hI.cell CR29_R2_2.out (fun _ h => by cases h)
          have k3 := hI.cell CR29_R2_3.out (fun _ h => by cases h)
          go_simp
          exact hK _ _ _ hI (Step.refl hI) rfl
        · intro vs g w2 hI hF hR K hK
          simp only [Facts, fill, Act.put, z1, z2, z3, z4, z5, Nat.reduceAdd] at hF hR hK ⊢
          obtain ⟨r10, -⟩ := hR
          generalize vs 10 = x10 at *
          subst r10
          have k0 := hI.cell CR210_R2_0.out (fun _ h => by cases h)
          have k1 := hI.cell CR210_R2_1.out (fun _ h => by cases h)
          have k2 := hI.cell CR210_R2_2.out (fun _ h => by cases h)
          have k3 := hI.cell CR210_R2_3.out (fun _ h => by cases h)
          go_simp
          exact hK _ _ _ hI (Step.refl hI) rfl
        · intro vs g w2 hI hF hR K hK
          simp only [Facts, fill, Act.put, z1, z2, z3, z4, z5, Nat.reduceAdd] at hF hR hK ⊢
          obtain ⟨r10, r14, r15, -⟩ := hR
          generalize vs 10 = x10, vs 14 = x14, vs 15 = x15 at *
          subst r10 r14 r15
          go_simp
          refine (gRefDot hI ((vecN_firm _ _ _) _ _ _ _ _ FR29_R2_0.out hI.keeps) ((vecN_firm _ _ _) _ _ _ _ _ FR210_R2_0.out hI.keeps) (by decide) (by decide)).mono ?_
          rintro e w3 ⟨v3, rfl, hv, hb⟩
          exact hK _ _ _ (hI.call hb) (Step.call hI hb) hv
        · intro vs g w2 hI hF hR K hK
          simp only [Facts, fill, Act.put, z1, z2, z3, z4, z5, Nat.reduceAdd] at hF hR hK ⊢
          obtain ⟨r10, r13, r16, -⟩ := hR
          generalize vs 10 = x10, vs 13 = x13, vs 16 = x16 at *
          subst r10
          go_simp
          refine (gLawLimbs hI r13 r16 (by decide) (by decide) (by first | rfl | grind)).mono ?_
          rintro e w3 ⟨v3, rfl, hv, hb⟩
          exact hK _ _ _ (hI.call hb) (Step.call hI hb) hv
        · intro vs g w2 hI hF hR K hK
          simp only [Facts, fill, Act.put, z1, z2, z3, z4, z5, Nat.reduceAdd] at hF hR hK ⊢
          obtain ⟨r10, r17, -⟩ := hR
          generalize vs 10 = x10, vs 17 = x17 at *
          subst r10 r17
          go_simp
          exact hK _ _ _ hI (Step.refl hI) rfl
        · intro vs g w2 hI hF hR K hK
          simp only [Facts, fill, Act.put, z1, z2, z3, z4, z5, Nat.reduceAdd] at hF hR hK ⊢
          obtain ⟨r18, -⟩ := hR
          generalize vs 18 = x18 at *
          subst r18
          go_simp
          exact hK _ _ _ hI (Step.refl hI) rfl
        · intro vs g w2 hI hF hR K hK
          simp only [Facts, fill, Act.put, z1, z2, z3, z4, z5, Nat.reduceAdd] at hF hR hK ⊢
          obtain ⟨r19, -⟩ := hR
          generalize vs 19 = x19 at *
          subst r19
          have k0 := hI.cell CR17_R2_0.out (fun _ h => by cases h)
          have k1 := hI.cell CR17_R2_1.out (fun _ h => by cases h)
          go_simp
          exact hK _ _ _ hI (Step.refl hI) rfl
        · intro vs g w2 hI hF hR K hK
          simp only [Facts, fill, Act.put, z1, z2, z3, z4, z5, Nat.reduceAdd] at hF hR hK ⊢
          obtain ⟨r19, r20, -⟩ := hR
          generalize vs 19 = x19, vs 20 = x20 at *
          subst r19 r20
          go_simp
          refine (gNorm hI hw ((vecL_firm _ _) _ _ _ _ _ FR17_R2_0.out hI.keeps) (by first | exact HE0.out | exact HE1.out | exact HE2.out | exact HE3.out | exact Fit.sv (by repeat first | exact S.diff (by first | assumption | (unfold S; decide)) (by first | assumption | (unfold S; decide)) | apply Fit.neg | (unfold Fit; decide +kernel))) (by first | exact HE0.out | exact HE1.out | exact HE2.out | exact HE3.out | exact Fit.sv (by repeat first | exact S.diff (by first | assumption | (unfold S; decide)) (by first | assumption | (unfold S; decide)) | apply Fit.neg | (unfold Fit; decide +kernel)))).mono ?_
          rintro e w3 ⟨v3, rfl, hv, hb⟩
          exact hK _ _ _ (hI.call hb) (Step.call hI hb) hv
        · intro vs g w2 hI hF hR K hK
          simp only [Facts, fill, Act.put, z1, z2, z3, z4, z5, Nat.reduceAdd] at hF hR hK ⊢
          obtain ⟨r19, -⟩ := hR
          generalize vs 19 = x19 at *
          subst r19
          have k0 := hI.cell CR29_R2_0.out (fun _ h => by cases h)
          have k1 := hI.cell CR29_R2_1.out (fun _ h => by cases h)
          have k2 := hI.cell CR29_R2_2.out (fun _ h => by cases h)
          have k3 := hI.cell CR29_R2_3.out (fun _ h => by cases h)
          go_simp
          exact hK _ _ _ hI (Step.refl hI) rfl
        · intro vs g w2 hI hF hR K hK
          simp only [Facts, fill, Act.put, z1, z2, z3, z4, z5, Nat.reduceAdd] at hF hR hK ⊢
          obtain ⟨r19, -⟩ := hR
          generalize vs 19 = x19 at *
          subst r19
          have k0 := hI.cell CR29_R2_0.out (fun _ h => by cases h)
          have k1 := hI.cell CR29_R2_1.out (fun _ h => by cases h)
          have k2 := hI.cell CR29_R2_2.out (fun _ h => by cases h)
          have k3 := hI.cell CR29_R2_3.out (fun _ h => by cases h)
          go_simp
          exact hK _ _ _ hI (Step.refl hI) rfl
        · intro vs g w2 hI hF hR K hK
          simp only [Facts, fill, Act.put, z1, z2, z3, z4, z5, Nat.reduceAdd] at hF hR hK ⊢
          obtain ⟨r19, r22, r23, -⟩ := hR
          generalize vs 19 = x19, vs 22 = x22, vs 23 = x23 at *
          subst r19 r22 r23
          go_simp
          refine (gRefDot hI ((vecN_firm _ _ _) _ _ _ _ _ FR29_R2_0.out hI.keeps) ((vecN_firm _ _ _) _ _ _ _ _ FR29_R2_0.out hI.keeps) (by decide) (by decide)).mono ?_
          rintro e w3 ⟨v3, rfl, hv, hb⟩
          exact hK _ _ _ (hI.call hb) (Step.call hI hb) hv
        · intro vs g w2 hI hF hR K hK
          simp only [Facts, fill, Act.put, z1, z2, z3, z4, z5, Nat.reduceAdd] at hF hR hK ⊢
          obtain ⟨r19, r21, r24, -⟩ := hR
          generalize vs 19 = x19, vs 21 = x21, vs 24 = x24 at *
          subst r19
          go_simp
          refine (gLawLimbs hI r21 r24 (by decide) (by decide) (by first | rfl | grind)).mono ?_
          rintro e w3 ⟨v3, rfl, hv, hb⟩
          exact hK _ _ _ (hI.call hb) (Step.call hI hb) hv
        · intro vs g w2 hI hF hR K hK
          simp only [Facts, fill, Act.put, z1, z2, z3, z4, z5, Nat.reduceAdd] at hF hR hK ⊢
          obtain ⟨r19, r25, -⟩ := hR
          generalize vs 19 = x19, vs 25 = x25 at *
          subst r19 r25
          go_simp
          exact hK _ _ _ hI (Step.refl hI) rfl
        · intro vs g w2 hI hF hR K hK
          simp only [Facts, fill, Act.put, z1, z2, z3, z4, z5, Nat.reduceAdd] at hF hR hK ⊢
          obtain ⟨r26, -⟩ := hR
          generalize vs 26 = x26 at *
          subst r26
          go_simp
          exact hK _ _ _ hI (Step.refl hI) rfl
      case fin =>
        intro vs g wR3 hI hR
        have r27 := hR 27 (by decide)
        simp only [fill, Act.put, z1, z2, z3, z4, z5] at r27 ⊢
        clear hR
        generalize vs 27 = x27 at *
        have Ca_R3_0 := Lib.hid (hI.cell Ca_R2_0.out (fun _ h => by cases h))
        have Ca_R3_1 := Lib.hid (hI.cell Ca_R2_1.out (fun _ h => by cases h))
        have Cb_R3_0 := Lib.hid (hI.cell Cb_R2_0.out (fun _ h => by cases h))
        have Cb_R3_1 := Lib.hid (hI.cell Cb_R2_1.out (fun _ h => by cases h))
        have Cc_R3_0 := Lib.hid (hI.cell Cc_R2_0.out (fun _ h => by cases h))
        have Cc_R3_1 := Lib.hid (hI.cell Cc_R2_1.out (fun _ h => by cases h))
        have CR17_R3_0 := Lib.hid (hI.cell CR17_R2_0.out (fun _ h => by cases h))
        have CR17_R3_1 := Lib.hid (hI.cell CR17_R2_1.out (fun _ h => by cases h))
        have FR17_R3_0 := Lib.hid ((vecL_firm _ _) _ _ _ _ _ FR17_R2_0.out hI.carry)
        have FR17_R3_1 := Lib.hid ((limR_firm _ _) _ _ _ _ _ FR17_R2_1.out hI.carry)
        have FR17_R3_2 := Lib.hid ((limR_firm _ _) _ _ _ _ _ FR17_R2_2.out hI.carry)
        have CR18_R3_0 := Lib.hid (hI.cell CR18_R2_0.out (fun _ h => by cases h))
        have CR18_R3_1 := Lib.hid (hI.cell CR18_R2_1.out (fun _ h => by cases h))
        have FR18_R3_0 := Lib.hid ((vecL_firm _ _) _ _ _ _ _ FR18_R2_0.out hI.carry)
        have FR18_R3_1 := Lib.hid ((limR_firm _ _) _ _ _ _ _ FR18_R2_1.out hI.carry)
        have FR18_R3_2 := Lib.hid ((limR_firm _ _) _ _ _ _ _ FR18_R2_2.out hI.carry)
        have CR29_R3_0 := Lib.hid (hI.cell CR29_R2_0.out (fun _ h => by cases h))
        have CR29_R3_1 := Lib.hid (hI.cell CR29_R2_1.out (fun _ h => by cases h))
        have CR29_R3_2 := Lib.hid (hI.cell CR29_R2_2.out (fun _ h => by cases h))
        have CR29_R3_3 := Lib.hid (hI.cell CR29_R2_3.out (fun _ h => by cases h))
        have FR29_R3_0 := Lib.hid ((vecN_firm _ _ _) _ _ _ _ _ FR29_R2_0.out hI.carry)
        have FR29_R3_1 := Lib.hid ((numG_firm _ _) _ _ _ _ _ FR29_R2_1.out hI.carry)
        have FR29_R3_3 := Lib.hid ((numG_firm _ _) _ _ _ _ _ FR29_R2_3.out hI.carry)
        have CR210_R3_0 := Lib.hid (hI.cell CR210_R2_0.out (fun _ h => by cases h))
        have CR210_R3_1 := Lib.hid (hI.cell CR210_R2_1.out (fun _ h => by cases h))
        have CR210_R3_2 := Lib.hid (hI.cell CR210_R2_2.out (fun _ h => by cases h))
        have CR210_R3_3 := Lib.hid (hI.cell CR210_R2_3.out (fun _ h => by cases h))
        have FR210_R3_0 := Lib.hid ((vecN_firm _ _ _) _ _ _ _ _ FR210_R2_0.out hI.carry)
        have FR210_R3_1 := Lib.hid ((numG_firm _ _) _ _ _ _ _ FR210_R2_1.out hI.carry)
        have FR210_R3_3 := Lib.hid ((numG_firm _ _) _ _ _ _ _ FR210_R2_3.out hI.carry)
        subst r27
        have hBR3 := hI.below
        have HCR3 := hI.next HCR2
        clear hI
        go_wp2
        go_ret
        exact ⟨rfl, hBR3⟩
end Go.Proofs.YtdcckjpeibnkbaaDoor
