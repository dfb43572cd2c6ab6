/-
  Law DiffCoordinates. (Written by law5.py.)
-/
import Derived.Test.YtdcckjpeibnkbaaDoorGen5b
namespace Go.Proofs.YtdcckjpeibnkbaaDoor
open Go.RowKit
set_option linter.unusedSimpArgs false
set_option linter.unusedVariables false

set_option maxRecDepth 100000 in
set_option maxHeartbeats 4000000 in
theorem law_diffCoordinates (xa ya xb yb : Int) (w : World) (hw : Wts w) (sxa : S xa) (sya : S ya) (sxb : S xb) (syb : S yb) :
    Calls Tryd.prog 3 #[.agg #[.int .i64 xa, .int .i64 ya], .agg #[.int .i64 xb, .int .i64 yb]] w fun e w' => e = .returned (.bool true) ∧ Below w.heap.size w w' := by
  obtain ⟨W, hW⟩ : ∃ W, W = (w.alloc (.cells #[.int .i64 xa, .int .i64 ya] 23)).alloc (.cells #[.int .i64 xb, .int .i64 yb] 23) := ⟨_, rfl⟩
  have hb0 : Below w.heap.size w W := by rw [hW]; exact (((Below.refl _ _).alloc (Nat.le_refl _) _).alloc (by simp) _)
  have Ca_W_0 := Lib.hid (show W.cell? ⟨w.heap.size, 0, none⟩ = some (.int .i64 xa) by rw [hW]; simp [go_sem])
  have Ca_W_1 := Lib.hid (show W.cell? ⟨w.heap.size, 1, none⟩ = some (.int .i64 ya) by rw [hW]; simp [go_sem])
  have Cb_W_0 := Lib.hid (show W.cell? ⟨w.heap.size + 1, 0, none⟩ = some (.int .i64 xb) by rw [hW]; simp [go_sem])
  have Cb_W_1 := Lib.hid (show W.cell? ⟨w.heap.size + 1, 1, none⟩ = some (.int .i64 yb) by rw [hW]; simp [go_sem])
  have HW := Lib.hid hW
  clear hW
  go_enter Tryd.func3, Tryd.ntmps3
  go_upto_region 1 with (fail)
  rw [← HW.out]
  refine box_plan0 (c := ⟨w, W, (fun _ => none)⟩) (Ctx.ok_none hb0) [[], [], [(7, 0), (8, 1)], [], [(5, 3), (9, 2)]] [(7, 0), (8, 1), (9, 2), (5, 3)] [
      (fun v _ _ => v = .agg #[.int .i64 xa, .int .i64 ya]),
      (fun v _ _ => v = .agg #[.int .i64 xb, .int .i64 yb]),
      VecL (xb - xa) (yb - ya),
      PtrR 3 2,
      (fun _ g w => BoxR 3 (VecL (xb - xa) (yb - ya)) g w)
    ] (fun i => match i with | 3 => some 4 | _ => none) (by kernel_rfl) (by kernel_rfl) ⟨stab_eq, stab_eq, stab_firm (vecL_firm _ _), stab_ptr, stab_box (vecL_firm _ _) rfl, trivial⟩ ?steps ?fin
  case steps =>
    refine ⟨?_, ?_, ?_, ?_, ?_, trivial⟩
    · intro vs g w2 hI hF hR K hK
      simp only [Facts, fill, Act.put, z1, z2, z3, z4, z5, Nat.reduceAdd] at hF hR hK ⊢
      have k0 := hI.cell Ca_W_0.out (fun _ h => by cases h)
      have k1 := hI.cell Ca_W_1.out (fun _ h => by cases h)
      go_simp
      exact hK _ _ _ hI (Step.refl hI) rfl
    · intro vs g w2 hI hF hR K hK
      simp only [Facts, fill, Act.put, z1, z2, z3, z4, z5, Nat.reduceAdd] at hF hR hK ⊢
      have k0 := hI.cell Cb_W_0.out (fun _ h => by cases h)
      have k1 := hI.cell Cb_W_1.out (fun _ h => by cases h)
      go_simp
      exact hK _ _ _ hI (Step.refl hI) rfl
    · intro vs g w2 hI hF hR K hK
      simp only [Facts, fill, Act.put, z1, z2, z3, z4, z5, Nat.reduceAdd] at hF hR hK ⊢
      obtain ⟨r0, r1, -⟩ := hR
      generalize vs 0 = x0, vs 1 = x1 at *
      subst r0 r1
      go_simp
      refine (gBetween hI hw (by first | assumption | (unfold S; decide)) (by first | assumption | (unfold S; decide)) (by first | assumption | (unfold S; decide)) (by first | assumption | (unfold S; decide))).mono ?_
      rintro e w3 ⟨v3, rfl, hv, hb⟩
      exact hK _ _ _ (hI.call hb) (Step.call hI hb) hv
    · intro vs g w2 hI hF hR K hK
      simp only [Facts, fill, Act.put, z1, z2, z3, z4, z5, Nat.reduceAdd] at hF hR hK ⊢
      go_simp
      exact hK _ _ _ (hI.alloc _ (hF (by decide)) _) (Step.alloc hI (hF (by decide)) _) ⟨_, rfl, more_at _ _ _, box2' _ _ _ _⟩
    · intro vs g w2 hI hF hR K hK
      simp only [Facts, fill, Act.put, z1, z2, z3, z4, z5, Nat.reduceAdd] at hF hR hK ⊢
      obtain ⟨r3, r2, -⟩ := hR
      generalize vs 3 = x3, vs 2 = x2 at *
      obtain ⟨k, rfl, hk, hbx⟩ := r3
      have qx := r2
      obtain ⟨A4, c4, B4, d4, rfl⟩ := vecL_open r2
      obtain ⟨⟨u0, k0⟩, f0⟩ := hbx 0 (by decide)
      obtain ⟨⟨u1, k1⟩, f1⟩ := hbx 1 (by decide)
      go_simp
      have ht := (((Touch.refl w2 k).set 0 (.slice A4 2 c4)).set 1 (.slice B4 2 d4))
      exact hK undef _ _ (hI.store (by decide) hk ht) (Step.store hI rfl hk ht) ⟨k, .agg #[.slice A4 2 c4, .slice B4 2 d4], hk, by rw [ht.size]; exact hI.lt _ _ hk, cells2 k0 k1 (.slice A4 2 c4) (.slice B4 2 d4), ((vecL_firm _ _) _ _ _ _ _ qx (ht.keeps hk))⟩
  case fin =>
    intro vs g wR1 hI hR
    have r3 := hR 3 (by decide)
    have r4 := hR 4 (by decide)
    simp only [fill, Act.put, z1, z2, z3, z4, z5] at r3 r4 ⊢
    clear hR
    generalize vs 3 = x3 at *
    generalize vs 4 = x4 at *
    have Ca_R1_0 := Lib.hid (hI.cell Ca_W_0.out (fun _ h => by cases h))
    have Ca_R1_1 := Lib.hid (hI.cell Ca_W_1.out (fun _ h => by cases h))
    have Cb_R1_0 := Lib.hid (hI.cell Cb_W_0.out (fun _ h => by cases h))
    have Cb_R1_1 := Lib.hid (hI.cell Cb_W_1.out (fun _ h => by cases h))
    obtain ⟨pR15, rfl, hkR15, -⟩ := r3
    obtain ⟨qR15, uR15, hqR15, -, hcR15, hrR15⟩ := r4
    rw [hkR15] at hqR15
    injection hqR15 with hqR15
    subst hqR15
    have qfR15 := hrR15
    obtain ⟨AvR15, cvR15, BvR15, dvR15, rfl⟩ := vecL_open hrR15
    have FR15_R1_0 := Lib.hid ((vecL_firm _ _) _ _ _ _ _ qfR15 hI.back)
    clear qfR15
    have FR15_R1_1 := Lib.hid (vecL_x FR15_R1_0.out)
    have FR15_R1_2 := Lib.hid (vecL_y FR15_R1_0.out)
    have CR15_R1_0 := Lib.hid (hcR15 0 _ rfl)
    have CR15_R1_1 := Lib.hid (hcR15 1 _ rfl)
    clear hcR15 hkR15
    have hBR1 := hI.below
    have HCR1 := hI.next (Ctx.ok_none hb0)
    clear hI
    go_upto_region 2 with (fail)
    refine box_plan0 (c := ⟨w, wR1, (fun _ => none)⟩) HCR1 [[], [], [(10, 0), (11, 1)], [], [(6, 3), (12, 2)]] [(10, 0), (11, 1), (12, 2), (6, 3)] [
        (fun v _ _ => v = .agg #[.int .i64 xa, .int .i64 ya]),
        (fun v _ _ => v = .agg #[.int .i64 xb, .int .i64 yb]),
        VecN 5 (xb - xa) (yb - ya),
        PtrR 3 4,
        (fun _ g w => BoxR 3 (VecN 5 (xb - xa) (yb - ya)) g w)
      ] (fun i => match i with | 3 => some 4 | _ => none) (by kernel_rfl) (by kernel_rfl) ⟨stab_eq, stab_eq, stab_firm (vecN_firm _ _ _), stab_ptr, stab_box (vecN_firm _ _ _) rfl, trivial⟩ ?steps ?fin
    case steps =>
      refine ⟨?_, ?_, ?_, ?_, ?_, trivial⟩
      · intro vs g w2 hI hF hR K hK
        simp only [Facts, fill, Act.put, z1, z2, z3, z4, z5, Nat.reduceAdd] at hF hR hK ⊢
        have k0 := hI.cell Ca_R1_0.out (fun _ h => by cases h)
        have k1 := hI.cell Ca_R1_1.out (fun _ h => by cases h)
        go_simp
        exact hK _ _ _ hI (Step.refl hI) rfl
      · intro vs g w2 hI hF hR K hK
        simp only [Facts, fill, Act.put, z1, z2, z3, z4, z5, Nat.reduceAdd] at hF hR hK ⊢
        have k0 := hI.cell Cb_R1_0.out (fun _ h => by cases h)
        have k1 := hI.cell Cb_R1_1.out (fun _ h => by cases h)
        go_simp
        exact hK _ _ _ hI (Step.refl hI) rfl
      · intro vs g w2 hI hF hR K hK
        simp only [Facts, fill, Act.put, z1, z2, z3, z4, z5, Nat.reduceAdd] at hF hR hK ⊢
        obtain ⟨r0, r1, -⟩ := hR
        generalize vs 0 = x0, vs 1 = x1 at *
        subst r0 r1
        go_simp
        refine (gRefBetween hI (by first | assumption | (unfold S; decide)) (by first | assumption | (unfold S; decide)) (by first | assumption | (unfold S; decide)) (by first | assumption | (unfold S; decide))).mono ?_
        rintro e w3 ⟨v3, rfl, hv, hb⟩
        exact hK _ _ _ (hI.call hb) (Step.call hI hb) hv
      · intro vs g w2 hI hF hR K hK
        simp only [Facts, fill, Act.put, z1, z2, z3, z4, z5, Nat.reduceAdd] at hF hR hK ⊢
        go_simp
        exact hK _ _ _ (hI.alloc _ (hF (by decide)) _) (Step.alloc hI (hF (by decide)) _) ⟨_, rfl, more_at _ _ _, box4' _ _ _ _ _ _⟩
      · intro vs g w2 hI hF hR K hK
        simp only [Facts, fill, Act.put, z1, z2, z3, z4, z5, Nat.reduceAdd] at hF hR hK ⊢
        obtain ⟨r3, r2, -⟩ := hR
        generalize vs 3 = x3, vs 2 = x2 at *
        obtain ⟨k, rfl, hk, hbx⟩ := r3
        have qx := r2
        obtain ⟨s4, A4, n4, c4, t4, B4, m4, d4, rfl⟩ := vecN_open r2
        obtain ⟨⟨u0, k0⟩, f0⟩ := hbx 0 (by decide)
        obtain ⟨⟨u1, k1⟩, f1⟩ := hbx 1 (by decide)
        obtain ⟨⟨u2, k2⟩, f2⟩ := hbx 2 (by decide)
        obtain ⟨⟨u3, k3⟩, f3⟩ := hbx 3 (by decide)
        go_simp
        have ht := (((((Touch.refl w2 k).set 0 (.int .i64 s4)).set 1 (.slice A4 n4 c4)).set 2 (.int .i64 t4)).set 3 (.slice B4 m4 d4))
        exact hK undef _ _ (hI.store (by decide) hk ht) (Step.store hI rfl hk ht) ⟨k, .agg #[.int .i64 s4, .slice A4 n4 c4, .int .i64 t4, .slice B4 m4 d4], hk, by rw [ht.size]; exact hI.lt _ _ hk, cells4 k0 k1 k2 k3 (.int .i64 s4) (.slice A4 n4 c4) (.int .i64 t4) (.slice B4 m4 d4), ((vecN_firm _ _ _) _ _ _ _ _ qx (ht.keeps hk))⟩
    case fin =>
      intro vs g wR2 hI hR
      have r3 := hR 3 (by decide)
      have r4 := hR 4 (by decide)
      simp only [fill, Act.put, z1, z2, z3, z4, z5] at r3 r4 ⊢
      clear hR
      generalize vs 3 = x3 at *
      generalize vs 4 = x4 at *
      have Ca_R2_0 := Lib.hid (hI.cell Ca_R1_0.out (fun _ h => by cases h))
      have Ca_R2_1 := Lib.hid (hI.cell Ca_R1_1.out (fun _ h => by cases h))
      have Cb_R2_0 := Lib.hid (hI.cell Cb_R1_0.out (fun _ h => by cases h))
      have Cb_R2_1 := Lib.hid (hI.cell Cb_R1_1.out (fun _ h => by cases h))
      have CR15_R2_0 := Lib.hid (hI.cell CR15_R1_0.out (fun _ h => by cases h))
      have CR15_R2_1 := Lib.hid (hI.cell CR15_R1_1.out (fun _ h => by cases h))
      have FR15_R2_0 := Lib.hid ((vecL_firm _ _) _ _ _ _ _ FR15_R1_0.out hI.carry)
      have FR15_R2_1 := Lib.hid ((limR_firm _ _) _ _ _ _ _ FR15_R1_1.out hI.carry)
      have FR15_R2_2 := Lib.hid ((limR_firm _ _) _ _ _ _ _ FR15_R1_2.out hI.carry)
      obtain ⟨pR26, rfl, hkR26, -⟩ := r3
      obtain ⟨qR26, uR26, hqR26, -, hcR26, hrR26⟩ := r4
      rw [hkR26] at hqR26
      injection hqR26 with hqR26
      subst hqR26
      have qfR26 := hrR26
      obtain ⟨svR26, AvR26, nvR26, cvR26, tvR26, BvR26, mvR26, dvR26, rfl⟩ := vecN_open hrR26
      have FR26_R2_0 := Lib.hid ((vecN_firm _ _ _) _ _ _ _ _ qfR26 hI.back)
      clear qfR26
      have FR26_R2_1 := Lib.hid (vecN_x FR26_R2_0.out)
      have FR26_R2_3 := Lib.hid (vecN_y FR26_R2_0.out)
      have CR26_R2_0 := Lib.hid (hcR26 0 _ rfl)
      have CR26_R2_1 := Lib.hid (hcR26 1 _ rfl)
      have CR26_R2_2 := Lib.hid (hcR26 2 _ rfl)
      have CR26_R2_3 := Lib.hid (hcR26 3 _ rfl)
      clear hcR26 hkR26
      have hBR2 := hI.below
      have HCR2 := hI.next HCR1
      clear hI
      go_upto_region 3 with (fail)
      refine box_plan (c := ⟨w, wR2, (fun _ => none)⟩) HCR2 (by kernel_rfl) [[], [(13, 0)], [(14, 1)], [(14, 1), (15, 2)], [(14, 1)], [(14, 1), (17, 4)], [(14, 1), (16, 3), (18, 5)], [(14, 1)], [(14, 1), (20, 7)], [(14, 1)], [(14, 1), (22, 9)], [(14, 1), (21, 8), (23, 10)], [(14, 1), (19, 6), (24, 11)], [(14, 1), (25, 12)], [(26, 13)], [(27, 14)], [(27, 14), (28, 15)], [(27, 14)], [(27, 14), (30, 17)], [(27, 14), (29, 16), (31, 18)], [(27, 14), (32, 19)], [(33, 20)], [(34, 21)], [(34, 21), (35, 22)], [(34, 21)], [(34, 21), (37, 24)], [(34, 21), (36, 23), (38, 25)], [(34, 21), (39, 26)], [(40, 27)]] [(13, 0), (14, 1), (15, 2), (16, 3), (17, 4), (18, 5), (19, 6), (20, 7), (21, 8), (22, 9), (23, 10), (24, 11), (25, 12), (26, 13), (27, 14), (28, 15), (29, 16), (30, 17), (31, 18), (32, 19), (33, 20), (34, 21), (35, 22), (36, 23), (37, 24), (38, 25), (39, 26), (40, 27), (4, 28)] [
          (fun v _ _ => v = .bool true),
          (fun v _ _ => v = .bool true),
          (fun v _ _ => v = .pointer (some ⟨w.heap.size, 0, none⟩)),
          (fun v _ _ => v = .int .i64 xa),
          (fun v _ _ => v = .pointer (some ⟨w.heap.size + 1, 1, none⟩)),
          (fun v _ _ => v = .int .i64 yb),
          LimR 2 (xa - yb),
          (fun v _ _ => v = .pointer (some ⟨w.heap.size, 0, none⟩)),
          (fun v _ _ => v = .int .i64 xa),
          (fun v _ _ => v = .pointer (some ⟨w.heap.size + 1, 1, none⟩)),
          (fun v _ _ => v = .int .i64 yb),
          NumG 5 (xa - yb),
          (fun v _ _ => v = .bool true),
          (fun v _ _ => v = .bool true),
          (fun v _ _ => v = .bool true),
          (fun v _ _ => v = .pointer (some ⟨pR15, 0, none⟩)),
          (fun v _ _ => v = .slice AvR15 2 cvR15),
          (fun v _ _ => v = .pointer (some ⟨pR26, 0, none⟩)),
          (fun v _ _ => v = .agg #[.int .i64 svR26, .slice AvR26 nvR26 cvR26]),
          (fun v _ _ => v = .bool true),
          (fun v _ _ => v = .bool true),
          (fun v _ _ => v = .bool true),
          (fun v _ _ => v = .pointer (some ⟨pR15, 1, none⟩)),
          (fun v _ _ => v = .slice BvR15 2 dvR15),
          (fun v _ _ => v = .pointer (some ⟨pR26, 2, none⟩)),
          (fun v _ _ => v = .agg #[.int .i64 tvR26, .slice BvR26 mvR26 dvR26]),
          (fun v _ _ => v = .bool true),
          (fun v _ _ => v = .bool true),
          (fun v _ _ => v = .bool true)
        ] (fun _ => none) (by kernel_rfl) (by kernel_rfl) ⟨stab_eq, stab_eq, stab_eq, stab_eq, stab_eq, stab_eq, stab_firm (limR_firm _ _), stab_eq, stab_eq, stab_eq, stab_eq, stab_firm (numG_firm _ _), stab_eq, stab_eq, stab_eq, stab_eq, stab_eq, stab_eq, stab_eq, stab_eq, stab_eq, stab_eq, stab_eq, stab_eq, stab_eq, stab_eq, stab_eq, stab_eq, stab_eq, trivial⟩ ?steps ?fin
      case steps =>
        refine ⟨?_, ?_, ?_, ?_, ?_, ?_, ?_, ?_, ?_, ?_, ?_, ?_, ?_, ?_, ?_, ?_, ?_, ?_, ?_, ?_, ?_, ?_, ?_, ?_, ?_, ?_, ?_, ?_, ?_, trivial⟩
        · intro vs g w2 hI hF hR K hK
          simp only [Facts, fill, Act.put, z1, z2, z3, z4, z5, Nat.reduceAdd] at hF hR hK ⊢
          go_simp
          refine (gAlive5 hI hw).mono ?_
          rintro e w3 ⟨v3, rfl, hv, hb⟩
          exact hK _ _ _ (hI.call hb) (Step.call hI hb) hv
        · intro vs g w2 hI hF hR K hK
          simp only [Facts, fill, Act.put, z1, z2, z3, z4, z5, Nat.reduceAdd] at hF hR hK ⊢
          obtain ⟨r0, -⟩ := hR
          generalize vs 0 = x0 at *
          subst r0
          go_simp
          exact hK _ _ _ hI (Step.refl hI) rfl
        · intro vs g w2 hI hF hR K hK
          simp only [Facts, fill, Act.put, z1, z2, z3, z4, z5, Nat.reduceAdd] at hF hR hK ⊢
          obtain ⟨r1, -⟩ := hR
          generalize vs 1 = x1 at *
          subst r1
          go_simp
          exact hK _ _ _ hI (Step.refl hI) rfl
        · intro vs g w2 hI hF hR K hK
          simp only [Facts, fill, Act.put, z1, z2, z3, z4, z5, Nat.reduceAdd] at hF hR hK ⊢
          obtain ⟨r1, r2, -⟩ := hR
          generalize vs 1 = x1, vs 2 = x2 at *
          subst r1 r2
          have k0 := hI.cell Ca_R2_0.out (fun _ h => by cases h)
          go_simp
          exact hK _ _ _ hI (Step.refl hI) rfl
        · intro vs g w2 hI hF hR K hK
          simp only [Facts, fill, Act.put, z1, z2, z3, z4, z5, Nat.reduceAdd] at hF hR hK ⊢
          obtain ⟨r1, -⟩ := hR
          generalize vs 1 = x1 at *
          subst r1
          go_simp
          exact hK _ _ _ hI (Step.refl hI) rfl
        · intro vs g w2 hI hF hR K hK
          simp only [Facts, fill, Act.put, z1, z2, z3, z4, z5, Nat.reduceAdd] at hF hR hK ⊢
          obtain ⟨r1, r4, -⟩ := hR
          generalize vs 1 = x1, vs 4 = x4 at *
          subst r1 r4
          have k0 := hI.cell Cb_R2_1.out (fun _ h => by cases h)
          go_simp
          exact hK _ _ _ hI (Step.refl hI) rfl
        · intro vs g w2 hI hF hR K hK
          simp only [Facts, fill, Act.put, z1, z2, z3, z4, z5, Nat.reduceAdd] at hF hR hK ⊢
          obtain ⟨r1, r3, r5, -⟩ := hR
          generalize vs 1 = x1, vs 3 = x3, vs 5 = x5 at *
          subst r1 r3 r5
          go_simp
          refine (gCoord hI hw (by first | assumption | (unfold S; decide)) (by first | assumption | (unfold S; decide))).mono ?_
          rintro e w3 ⟨v3, rfl, hv, hb⟩
          exact hK _ _ _ (hI.call hb) (Step.call hI hb) hv
        · intro vs g w2 hI hF hR K hK
          simp only [Facts, fill, Act.put, z1, z2, z3, z4, z5, Nat.reduceAdd] at hF hR hK ⊢
          obtain ⟨r1, -⟩ := hR
          generalize vs 1 = x1 at *
          subst r1
          go_simp
          exact hK _ _ _ hI (Step.refl hI) rfl
        · intro vs g w2 hI hF hR K hK
          simp only [Facts, fill, Act.put, z1, z2, z3, z4, z5, Nat.reduceAdd] at hF hR hK ⊢
          obtain ⟨r1, r7, -⟩ := hR
          generalize vs 1 = x1, vs 7 = x7 at *
          subst r1 r7
          have k0 := hI.cell Ca_R2_0.out (fun _ h => by cases h)
          go_simp
          exact hK _ _ _ hI (Step.refl hI) rfl
        · intro vs g w2 hI hF hR K hK
          simp only [Facts, fill, Act.put, z1, z2, z3, z4, z5, Nat.reduceAdd] at hF hR hK ⊢
          obtain ⟨r1, -⟩ := hR
          generalize vs 1 = x1 at *
          subst r1
          go_simp
          exact hK _ _ _ hI (Step.refl hI) rfl
        · intro vs g w2 hI hF hR K hK
          simp only [Facts, fill, Act.put, z1, z2, z3, z4, z5, Nat.reduceAdd] at hF hR hK ⊢
          obtain ⟨r1, r9, -⟩ := hR
          generalize vs 1 = x1, vs 9 = x9 at *
          subst r1 r9
          have k0 := hI.cell Cb_R2_1.out (fun _ h => by cases h)
          go_simp
          exact hK _ _ _ hI (Step.refl hI) rfl
        · intro vs g w2 hI hF hR K hK
          simp only [Facts, fill, Act.put, z1, z2, z3, z4, z5, Nat.reduceAdd] at hF hR hK ⊢
          obtain ⟨r1, r8, r10, -⟩ := hR
          generalize vs 1 = x1, vs 8 = x8, vs 10 = x10 at *
          subst r1 r8 r10
          go_simp
          refine (gRefCoord hI (by first | assumption | (unfold S; decide)) (by first | assumption | (unfold S; decide))).mono ?_
          rintro e w3 ⟨v3, rfl, hv, hb⟩
          exact hK _ _ _ (hI.call hb) (Step.call hI hb) hv
        · intro vs g w2 hI hF hR K hK
          simp only [Facts, fill, Act.put, z1, z2, z3, z4, z5, Nat.reduceAdd] at hF hR hK ⊢
          obtain ⟨r1, r6, r11, -⟩ := hR
          generalize vs 1 = x1, vs 6 = x6, vs 11 = x11 at *
          subst r1
          go_simp
          refine (gLawLimbs hI r6 r11 (by decide) (by decide) (by first | rfl | grind)).mono ?_
          rintro e w3 ⟨v3, rfl, hv, hb⟩
          exact hK _ _ _ (hI.call hb) (Step.call hI hb) hv
        · intro vs g w2 hI hF hR K hK
          simp only [Facts, fill, Act.put, z1, z2, z3, z4, z5, Nat.reduceAdd] at hF hR hK ⊢
          obtain ⟨r1, r12, -⟩ := hR
          generalize vs 1 = x1, vs 12 = x12 at *
          subst r1 r12
          go_simp
          exact hK _ _ _ hI (Step.refl hI) rfl
        · intro vs g w2 hI hF hR K hK
          simp only [Facts, fill, Act.put, z1, z2, z3, z4, z5, Nat.reduceAdd] at hF hR hK ⊢
          obtain ⟨r13, -⟩ := hR
          generalize vs 13 = x13 at *
          subst r13
          go_simp
          exact hK _ _ _ hI (Step.refl hI) rfl
        · intro vs g w2 hI hF hR K hK
          simp only [Facts, fill, Act.put, z1, z2, z3, z4, z5, Nat.reduceAdd] at hF hR hK ⊢
          obtain ⟨r14, -⟩ := hR
          generalize vs 14 = x14 at *
          subst r14
          go_simp
          exact hK _ _ _ hI (Step.refl hI) rfl
        · intro vs g w2 hI hF hR K hK
          simp only [Facts, fill, Act.put, z1, z2, z3, z4, z5, Nat.reduceAdd] at hF hR hK ⊢
          obtain ⟨r14, r15, -⟩ := hR
          generalize vs 14 = x14, vs 15 = x15 at *
          subst r14 r15
          have k0 := hI.cell CR15_R2_0.out (fun _ h => by cases h)
          go_simp
          exact hK _ _ _ hI (Step.refl hI) rfl
        · intro vs g w2 hI hF hR K hK
          simp only [Facts, fill, Act.put, z1, z2, z3, z4, z5, Nat.reduceAdd] at hF hR hK ⊢
          obtain ⟨r14, -⟩ := hR
          generalize vs 14 = x14 at *
          subst r14
          go_simp
          exact hK _ _ _ hI (Step.refl hI) rfl
        · intro vs g w2 hI hF hR K hK
          simp only [Facts, fill, Act.put, z1, z2, z3, z4, z5, Nat.reduceAdd] at hF hR hK ⊢
          obtain ⟨r14, r17, -⟩ := hR
          generalize vs 14 = x14, vs 17 = x17 at *
          subst r14 r17
          have k0 := hI.cell CR26_R2_0.out (fun _ h => by cases h)
          have k1 := hI.cell CR26_R2_1.out (fun _ h => by cases h)
          go_simp
          exact hK _ _ _ hI (Step.refl hI) rfl
        · intro vs g w2 hI hF hR K hK
          simp only [Facts, fill, Act.put, z1, z2, z3, z4, z5, Nat.reduceAdd] at hF hR hK ⊢
          obtain ⟨r14, r16, r18, -⟩ := hR
          generalize vs 14 = x14, vs 16 = x16, vs 18 = x18 at *
          subst r14 r16 r18
          go_simp
          refine (gLawLimbs hI ((limR_firm _ _) _ _ _ _ _ FR15_R2_1.out hI.keeps) ((numG_firm _ _) _ _ _ _ _ FR26_R2_1.out hI.keeps) (by decide) (by decide) (by first | rfl | grind)).mono ?_
          rintro e w3 ⟨v3, rfl, hv, hb⟩
          exact hK _ _ _ (hI.call hb) (Step.call hI hb) hv
        · intro vs g w2 hI hF hR K hK
          simp only [Facts, fill, Act.put, z1, z2, z3, z4, z5, Nat.reduceAdd] at hF hR hK ⊢
          obtain ⟨r14, r19, -⟩ := hR
          generalize vs 14 = x14, vs 19 = x19 at *
          subst r14 r19
          go_simp
          exact hK _ _ _ hI (Step.refl hI) rfl
        · intro vs g w2 hI hF hR K hK
          simp only [Facts, fill, Act.put, z1, z2, z3, z4, z5, Nat.reduceAdd] at hF hR hK ⊢
          obtain ⟨r20, -⟩ := hR
          generalize vs 20 = x20 at *
          subst r20
          go_simp
          exact hK _ _ _ hI (Step.refl hI) rfl
        · intro vs g w2 hI hF hR K hK
          simp only [Facts, fill, Act.put, z1, z2, z3, z4, z5, Nat.reduceAdd] at hF hR hK ⊢
          obtain ⟨r21, -⟩ := hR
          generalize vs 21 = x21 at *
          subst r21
          go_simp
          exact hK _ _ _ hI (Step.refl hI) rfl
        · intro vs g w2 hI hF hR K hK
          simp only [Facts, fill, Act.put, z1, z2, z3, z4, z5, Nat.reduceAdd] at hF hR hK ⊢
          obtain ⟨r21, r22, -⟩ := hR
          generalize vs 21 = x21, vs 22 = x22 at *
          subst r21 r22
          have k0 := hI.cell CR15_R2_1.out (fun _ h => by cases h)
          go_simp
          exact hK _ _ _ hI (Step.refl hI) rfl
        · intro vs g w2 hI hF hR K hK
          simp only [Facts, fill, Act.put, z1, z2, z3, z4, z5, Nat.reduceAdd] at hF hR hK ⊢
          obtain ⟨r21, -⟩ := hR
          generalize vs 21 = x21 at *
          subst r21
          go_simp
          exact hK _ _ _ hI (Step.refl hI) rfl
        · intro vs g w2 hI hF hR K hK
          simp only [Facts, fill, Act.put, z1, z2, z3, z4, z5, Nat.reduceAdd] at hF hR hK ⊢
          obtain ⟨r21, r24, -⟩ := hR
          generalize vs 21 = x21, vs 24 = x24 at *
          subst r21 r24
          have k0 := hI.cell CR26_R2_2.out (fun _ h => by cases h)
          have k1 := hI.cell CR26_R2_3.out (fun _ h => by cases h)
          go_simp
          exact hK _ _ _ hI (Step.refl hI) rfl
        · intro vs g w2 hI hF hR K hK
          simp only [Facts, fill, Act.put, z1, z2, z3, z4, z5, Nat.reduceAdd] at hF hR hK ⊢
          obtain ⟨r21, r23, r25, -⟩ := hR
          generalize vs 21 = x21, vs 23 = x23, vs 25 = x25 at *
          subst r21 r23 r25
          go_simp
          refine (gLawLimbs hI ((limR_firm _ _) _ _ _ _ _ FR15_R2_2.out hI.keeps) ((numG_firm _ _) _ _ _ _ _ FR26_R2_3.out hI.keeps) (by decide) (by decide) (by first | rfl | grind)).mono ?_
          rintro e w3 ⟨v3, rfl, hv, hb⟩
          exact hK _ _ _ (hI.call hb) (Step.call hI hb) hv
        · intro vs g w2 hI hF hR K hK
          simp only [Facts, fill, Act.put, z1, z2, z3, z4, z5, Nat.reduceAdd] at hF hR hK ⊢
          obtain ⟨r21, r26, -⟩ := hR
          generalize vs 21 = x21, vs 26 = x26 at *
          subst r21 r26
          go_simp
          exact hK _ _ _ hI (Step.refl hI) rfl
        · intro vs g w2 hI hF hR K hK
          simp only [Facts, fill, Act.put, z1, z2, z3, z4, z5, Nat.reduceAdd] at hF hR hK ⊢
          obtain ⟨r27, -⟩ := hR
          generalize vs 27 = x27 at *
          subst r27
          go_simp
          exact hK _ _ _ hI (Step.refl hI) rfl
      case fin =>
        intro vs g wR3 hI hR
        have r28 := hR 28 (by decide)
        simp only [fill, Act.put, z1, z2, z3, z4, z5] at r28 ⊢
        clear hR
        generalize vs 28 = x28 at *
        have Ca_R3_0 := Lib.hid (hI.cell Ca_R2_0.out (fun _ h => by cases h))
        have Ca_R3_1 := Lib.hid (hI.cell Ca_R2_1.out (fun _ h => by cases h))
        have Cb_R3_0 := Lib.hid (hI.cell Cb_R2_0.out (fun _ h => by cases h))
        have Cb_R3_1 := Lib.hid (hI.cell Cb_R2_1.out (fun _ h => by cases h))
        have CR15_R3_0 := Lib.hid (hI.cell CR15_R2_0.out (fun _ h => by cases h))
        have CR15_R3_1 := Lib.hid (hI.cell CR15_R2_1.out (fun _ h => by cases h))
        have FR15_R3_0 := Lib.hid ((vecL_firm _ _) _ _ _ _ _ FR15_R2_0.out hI.carry)
        have FR15_R3_1 := Lib.hid ((limR_firm _ _) _ _ _ _ _ FR15_R2_1.out hI.carry)
        have FR15_R3_2 := Lib.hid ((limR_firm _ _) _ _ _ _ _ FR15_R2_2.out hI.carry)
        have CR26_R3_0 := Lib.hid (hI.cell CR26_R2_0.out (fun _ h => by cases h))
        have CR26_R3_1 := Lib.hid (hI.cell CR26_R2_1.out (fun _ h => by cases h))
        have CR26_R3_2 := Lib.hid (hI.cell CR26_R2_2.out (fun _ h => by cases h))
        have CR26_R3_3 := Lib.hid (hI.cell CR26_R2_3.out (fun _ h => by cases h))
        have FR26_R3_0 := Lib.hid ((vecN_firm _ _ _) _ _ _ _ _ FR26_R2_0.out hI.carry)
        have FR26_R3_1 := Lib.hid ((numG_firm _ _) _ _ _ _ _ FR26_R2_1.out hI.carry)
        have FR26_R3_3 := Lib.hid ((numG_firm _ _) _ _ _ _ _ FR26_R2_3.out hI.carry)
        subst r28
        have hBR3 := hI.below
        have HCR3 := hI.next HCR2
        clear hI
        go_wp2
        go_ret
        exact ⟨rfl, hBR3⟩
end Go.Proofs.YtdcckjpeibnkbaaDoor
