/-
  Law CircleIsExact. (Written by law5.py.)
-/
import Derived.Test.YtckeognbfdladaaDoorLaw7a
namespace Go.Proofs.YtckeognbfdladaaDoor
open Go.RowKit
set_option maxRecDepth 100000
set_option linter.unusedVariables false
set_option linter.unusedSimpArgs false

set_option maxRecDepth 100000 in
set_option maxHeartbeats 4000000 in
theorem law_circleIsExact (xa ya xb yb xc yc xd yd : Int) (w : World) (hw : Wts w) (sxa : S xa) (sya : S ya) (sxb : S xb) (syb : S yb) (sxc : S xc) (syc : S yc) (sxd : S xd) (syd : S yd) :
    Calls Tryd.prog 3 #[.agg #[.int .i64 xa, .int .i64 ya, .int .i64 xb, .int .i64 yb, .int .i64 xc, .int .i64 yc, .int .i64 xd, .int .i64 yd]] w fun e w' => e = .returned (.bool true) ∧ Below w.heap.size w w' := by
  obtain ⟨W, hW⟩ : ∃ W, W = w.alloc (.cells #[.int .i64 xa, .int .i64 ya, .int .i64 xb, .int .i64 yb, .int .i64 xc, .int .i64 yc, .int .i64 xd, .int .i64 yd] 24) := ⟨_, rfl⟩
  have hb0 : Below w.heap.size w W := by rw [hW]; exact ((Below.refl _ _).alloc (Nat.le_refl _) _)
  have Cp_W_0 := Lib.hid (show W.cell? ⟨w.heap.size, 0, none⟩ = some (.int .i64 xa) by rw [hW]; simp [go_sem])
  have Cp_W_1 := Lib.hid (show W.cell? ⟨w.heap.size, 1, none⟩ = some (.int .i64 ya) by rw [hW]; simp [go_sem])
  have Cp_W_2 := Lib.hid (show W.cell? ⟨w.heap.size, 2, none⟩ = some (.int .i64 xb) by rw [hW]; simp [go_sem])
  have Cp_W_3 := Lib.hid (show W.cell? ⟨w.heap.size, 3, none⟩ = some (.int .i64 yb) by rw [hW]; simp [go_sem])
  have Cp_W_4 := Lib.hid (show W.cell? ⟨w.heap.size, 4, none⟩ = some (.int .i64 xc) by rw [hW]; simp [go_sem])
  have Cp_W_5 := Lib.hid (show W.cell? ⟨w.heap.size, 5, none⟩ = some (.int .i64 yc) by rw [hW]; simp [go_sem])
  have Cp_W_6 := Lib.hid (show W.cell? ⟨w.heap.size, 6, none⟩ = some (.int .i64 xd) by rw [hW]; simp [go_sem])
  have Cp_W_7 := Lib.hid (show W.cell? ⟨w.heap.size, 7, none⟩ = some (.int .i64 yd) by rw [hW]; simp [go_sem])
  have HW := Lib.hid hW
  clear hW
  go_enter Tryd.func3, Tryd.ntmps3
  go_upto_region 1 with (fail)
  rw [← HW.out]
  refine box_plan0 (c := ⟨w, W, (fun _ => none)⟩) (Ctx.ok_none hb0) [[], [(4, 0)], [], [(6, 2)], [], [(8, 4)], [], [(10, 6)], [(5, 1), (7, 3), (9, 5), (11, 7)], [], [(3, 9), (12, 8)]] [(4, 0), (5, 1), (6, 2), (7, 3), (8, 4), (9, 5), (10, 6), (11, 7), (12, 8), (3, 9)] [
      (fun v _ _ => v = .pointer (some ⟨w.heap.size, 0, none⟩)),
      (fun v _ _ => v = .agg #[.int .i64 xa, .int .i64 ya]),
      (fun v _ _ => v = .pointer (some ⟨w.heap.size, 2, none⟩)),
      (fun v _ _ => v = .agg #[.int .i64 xb, .int .i64 yb]),
      (fun v _ _ => v = .pointer (some ⟨w.heap.size, 4, none⟩)),
      (fun v _ _ => v = .agg #[.int .i64 xc, .int .i64 yc]),
      (fun v _ _ => v = .pointer (some ⟨w.heap.size, 6, none⟩)),
      (fun v _ _ => v = .agg #[.int .i64 xd, .int .i64 yd]),
      NumG 22 (lc xa ya xb yb xc yc xd yd),
      PtrR 9 2,
      (fun _ g w => BoxR 9 (NumG 22 (lc xa ya xb yb xc yc xd yd)) g w)
    ] (fun i => match i with | 9 => some 10 | _ => none) (by kernel_rfl) (by kernel_rfl) ⟨stab_eq, stab_eq, stab_eq, stab_eq, stab_eq, stab_eq, stab_eq, stab_eq, stab_firm (numG_firm _ _), stab_ptr, stab_box (numG_firm _ _) rfl, trivial⟩ ?steps ?fin
  case steps =>
    refine ⟨?_, ?_, ?_, ?_, ?_, ?_, ?_, ?_, ?_, ?_, ?_, trivial⟩
    · intro vs g w2 hI hF hR K hK
      simp only [Facts, fill, Act.put, z1, z2, z3, z4, z5, Nat.reduceAdd] at hF hR hK ⊢
      go_simp
      exact hK _ _ _ hI (Step.refl hI) rfl
    · intro vs g w2 hI hF hR K hK
      simp only [Facts, fill, Act.put, z1, z2, z3, z4, z5, Nat.reduceAdd] at hF hR hK ⊢
      obtain ⟨r0, -⟩ := hR
      generalize vs 0 = x0 at *
      subst r0
      have k0 := hI.cell Cp_W_0.out (fun _ h => by cases h)
      have k1 := hI.cell Cp_W_1.out (fun _ h => by cases h)
      go_simp
      exact hK _ _ _ hI (Step.refl hI) rfl
    · intro vs g w2 hI hF hR K hK
      simp only [Facts, fill, Act.put, z1, z2, z3, z4, z5, Nat.reduceAdd] at hF hR hK ⊢
      go_simp
      exact hK _ _ _ hI (Step.refl hI) rfl
    · intro vs g w2 hI hF hR K hK
      simp only [Facts, fill, Act.put, z1, z2, z3, z4, z5, Nat.reduceAdd] at hF hR hK ⊢
      obtain ⟨r2, -⟩ := hR
      generalize vs 2 = x2 at *
      subst r2
      have k0 := hI.cell Cp_W_2.out (fun _ h => by cases h)
      have k1 := hI.cell Cp_W_3.out (fun _ h => by cases h)
      go_simp
      exact hK _ _ _ hI (Step.refl hI) rfl
    · intro vs g w2 hI hF hR K hK
      simp only [Facts, fill, Act.put, z1, z2, z3, z4, z5, Nat.reduceAdd] at hF hR hK ⊢
      go_simp
      exact hK _ _ _ hI (Step.refl hI) rfl
    · intro vs g w2 hI hF hR K hK
      simp only [Facts, fill, Act.put, z1, z2, z3, z4, z5, Nat.reduceAdd] at hF hR hK ⊢
      obtain ⟨r4, -⟩ := hR
      generalize vs 4 = x4 at *
      subst r4
      have k0 := hI.cell Cp_W_4.out (fun _ h => by cases h)
      have k1 := hI.cell Cp_W_5.out (fun _ h => by cases h)
      go_simp
      exact hK _ _ _ hI (Step.refl hI) rfl
    · intro vs g w2 hI hF hR K hK
      simp only [Facts, fill, Act.put, z1, z2, z3, z4, z5, Nat.reduceAdd] at hF hR hK ⊢
      go_simp
      exact hK _ _ _ hI (Step.refl hI) rfl
    · intro vs g w2 hI hF hR K hK
      simp only [Facts, fill, Act.put, z1, z2, z3, z4, z5, Nat.reduceAdd] at hF hR hK ⊢
      obtain ⟨r6, -⟩ := hR
      generalize vs 6 = x6 at *
      subst r6
      have k0 := hI.cell Cp_W_6.out (fun _ h => by cases h)
      have k1 := hI.cell Cp_W_7.out (fun _ h => by cases h)
      go_simp
      exact hK _ _ _ hI (Step.refl hI) rfl
    · intro vs g w2 hI hF hR K hK
      simp only [Facts, fill, Act.put, z1, z2, z3, z4, z5, Nat.reduceAdd] at hF hR hK ⊢
      obtain ⟨r1, r3, r5, r7, -⟩ := hR
      generalize vs 1 = x1, vs 3 = x3, vs 5 = x5, vs 7 = x7 at *
      subst r1 r3 r5 r7
      go_simp
      refine (gRef7Value hI (by first | assumption | (unfold S; decide)) (by first | assumption | (unfold S; decide)) (by first | assumption | (unfold S; decide)) (by first | assumption | (unfold S; decide)) (by first | assumption | (unfold S; decide)) (by first | assumption | (unfold S; decide)) (by first | assumption | (unfold S; decide)) (by first | assumption | (unfold S; decide))).mono ?_
      rintro e w3 ⟨v3, rfl, hv, hb⟩
      exact hK _ _ _ (hI.call hb) (Step.call hI hb) hv
    · intro vs g w2 hI hF hR K hK
      simp only [Facts, fill, Act.put, z1, z2, z3, z4, z5, Nat.reduceAdd] at hF hR hK ⊢
      go_simp
      exact hK _ _ _ (hI.alloc _ (hF (by decide)) _) (Step.alloc hI (hF (by decide)) _) ⟨_, rfl, more_at _ _ _, box2' _ _ _ _⟩
    · intro vs g w2 hI hF hR K hK
      simp only [Facts, fill, Act.put, z1, z2, z3, z4, z5, Nat.reduceAdd] at hF hR hK ⊢
      obtain ⟨r9, r8, -⟩ := hR
      generalize vs 9 = x9, vs 8 = x8 at *
      obtain ⟨k, rfl, hk, hbx⟩ := r9
      have qx := r8
      obtain ⟨s10, A10, n10, c10, rfl, hs10⟩ := numG_open r8
      obtain ⟨⟨u0, k0⟩, f0⟩ := hbx 0 (by decide)
      obtain ⟨⟨u1, k1⟩, f1⟩ := hbx 1 (by decide)
      go_simp
      have ht := (((Touch.refl w2 k).set 0 (.int .i64 s10)).set 1 (.slice A10 n10 c10))
      exact hK undef _ _ (hI.store (by decide) hk ht) (Step.store hI rfl hk ht) ⟨k, .agg #[.int .i64 s10, .slice A10 n10 c10], hk, by rw [ht.size]; exact hI.lt _ _ hk, cells2 k0 k1 (.int .i64 s10) (.slice A10 n10 c10), ((numG_firm _ _) _ _ _ _ _ qx (ht.keeps hk))⟩
  case fin =>
    intro vs g wR1 hI hR
    have r9 := hR 9 (by decide)
    have r10 := hR 10 (by decide)
    simp only [fill, Act.put, z1, z2, z3, z4, z5] at r9 r10 ⊢
    clear hR
    generalize vs 9 = x9 at *
    generalize vs 10 = x10 at *
    have Cp_R1_0 := Lib.hid (hI.cell Cp_W_0.out (fun _ h => by cases h))
    have Cp_R1_1 := Lib.hid (hI.cell Cp_W_1.out (fun _ h => by cases h))
    have Cp_R1_2 := Lib.hid (hI.cell Cp_W_2.out (fun _ h => by cases h))
    have Cp_R1_3 := Lib.hid (hI.cell Cp_W_3.out (fun _ h => by cases h))
    have Cp_R1_4 := Lib.hid (hI.cell Cp_W_4.out (fun _ h => by cases h))
    have Cp_R1_5 := Lib.hid (hI.cell Cp_W_5.out (fun _ h => by cases h))
    have Cp_R1_6 := Lib.hid (hI.cell Cp_W_6.out (fun _ h => by cases h))
    have Cp_R1_7 := Lib.hid (hI.cell Cp_W_7.out (fun _ h => by cases h))
    obtain ⟨pR13, rfl, hkR13, -⟩ := r9
    obtain ⟨qR13, uR13, hqR13, -, hcR13, hrR13⟩ := r10
    rw [hkR13] at hqR13
    injection hqR13 with hqR13
    subst hqR13
    have qfR13 := hrR13
    obtain ⟨svR13, AvR13, nvR13, cvR13, rfl, hsvR13⟩ := numG_open hrR13
    have FR13_R1_0 := Lib.hid ((numG_firm _ _) _ _ _ _ _ qfR13 hI.back)
    clear qfR13
    have FR13_R1_1 := Lib.hid (numG_sign FR13_R1_0.out)
    have CR13_R1_0 := Lib.hid (hcR13 0 _ rfl)
    have CR13_R1_1 := Lib.hid (hcR13 1 _ rfl)
    clear hcR13 hkR13
    have hBR1 := hI.below
    have HCR1 := hI.next (Ctx.ok_none hb0)
    clear hI
    go_upto_region 2 with (fail)
    refine box_plan (c := ⟨w, wR1, (fun _ => none)⟩) HCR1 (by kernel_rfl) [[], [(13, 0)], [(14, 1)], [(14, 1), (15, 2)], [(14, 1)], [(14, 1), (17, 4)], [(14, 1)], [(14, 1), (19, 6)], [(14, 1)], [(14, 1), (21, 8)], [(14, 1), (16, 3), (18, 5), (20, 7), (22, 9)], [(14, 1)], [(14, 1), (24, 11)], [(14, 1), (23, 10), (25, 12)], [(14, 1), (26, 13)], [(27, 14)], [(28, 15)], [(28, 15), (29, 16)], [(28, 15)], [(28, 15), (31, 18)], [(28, 15)], [(28, 15), (33, 20)], [(28, 15)], [(28, 15), (35, 22)], [(28, 15), (30, 17), (32, 19), (34, 21), (36, 23)], [(28, 15)], [(28, 15), (38, 25)], [(28, 15), (37, 24), (39, 26)], [(28, 15), (40, 27)], [(41, 28)]] [(13, 0), (14, 1), (15, 2), (16, 3), (17, 4), (18, 5), (19, 6), (20, 7), (21, 8), (22, 9), (23, 10), (24, 11), (25, 12), (26, 13), (27, 14), (28, 15), (29, 16), (30, 17), (31, 18), (32, 19), (33, 20), (34, 21), (35, 22), (36, 23), (37, 24), (38, 25), (39, 26), (40, 27), (41, 28), (2, 29)] [
        (fun v _ _ => v = .bool true),
        (fun v _ _ => v = .bool true),
        (fun v _ _ => v = .pointer (some ⟨w.heap.size, 0, none⟩)),
        (fun v _ _ => v = .agg #[.int .i64 xa, .int .i64 ya]),
        (fun v _ _ => v = .pointer (some ⟨w.heap.size, 2, none⟩)),
        (fun v _ _ => v = .agg #[.int .i64 xb, .int .i64 yb]),
        (fun v _ _ => v = .pointer (some ⟨w.heap.size, 4, none⟩)),
        (fun v _ _ => v = .agg #[.int .i64 xc, .int .i64 yc]),
        (fun v _ _ => v = .pointer (some ⟨w.heap.size, 6, none⟩)),
        (fun v _ _ => v = .agg #[.int .i64 xd, .int .i64 yd]),
        LimR 5 (lc xa ya xb yb xc yc xd yd),
        (fun v _ _ => v = .agg #[.int .i64 svR13, .slice AvR13 nvR13 cvR13]),
        LimR 5 (lc xa ya xb yb xc yc xd yd),
        (fun v _ _ => v = .bool true),
        (fun v _ _ => v = .bool true),
        (fun v _ _ => v = .bool true),
        (fun v _ _ => v = .pointer (some ⟨w.heap.size, 0, none⟩)),
        (fun v _ _ => v = .agg #[.int .i64 xa, .int .i64 ya]),
        (fun v _ _ => v = .pointer (some ⟨w.heap.size, 2, none⟩)),
        (fun v _ _ => v = .agg #[.int .i64 xb, .int .i64 yb]),
        (fun v _ _ => v = .pointer (some ⟨w.heap.size, 4, none⟩)),
        (fun v _ _ => v = .agg #[.int .i64 xc, .int .i64 yc]),
        (fun v _ _ => v = .pointer (some ⟨w.heap.size, 6, none⟩)),
        (fun v _ _ => v = .agg #[.int .i64 xd, .int .i64 yd]),
        SignR (lc xa ya xb yb xc yc xd yd),
        (fun v _ _ => v = .pointer (some ⟨pR13, 0, none⟩)),
        (fun v _ _ => v = .int .i64 svR13),
        (fun v _ _ => v = .bool true),
        (fun v _ _ => v = .bool true),
        (fun v _ _ => v = .bool true)
      ] (fun _ => none) (by kernel_rfl) (by kernel_rfl) ⟨stab_eq, stab_eq, stab_eq, stab_eq, stab_eq, stab_eq, stab_eq, stab_eq, stab_eq, stab_eq, stab_firm (limR_firm _ _), stab_eq, stab_firm (limR_firm _ _), stab_eq, stab_eq, stab_eq, stab_eq, stab_eq, stab_eq, stab_eq, stab_eq, stab_eq, stab_eq, stab_eq, stab_firm (signR_firm _), stab_eq, stab_eq, stab_eq, stab_eq, stab_eq, trivial⟩ ?steps ?fin
    case steps =>
      refine ⟨?_, ?_, ?_, ?_, ?_, ?_, ?_, ?_, ?_, ?_, ?_, ?_, ?_, ?_, ?_, ?_, ?_, ?_, ?_, ?_, ?_, ?_, ?_, ?_, ?_, ?_, ?_, ?_, ?_, ?_, trivial⟩
      · intro vs g w2 hI hF hR K hK
        simp only [Facts, fill, Act.put, z1, z2, z3, z4, z5, Nat.reduceAdd] at hF hR hK ⊢
        go_simp
        refine (gAlive7 hI hw).mono ?_
        rintro e w3 ⟨v3, rfl, hv, hb⟩
        exact hK _ _ _ (hI.call hb) (Step.call hI hb) hv
      · intro vs g w2 hI hF hR K hK
        simp only [Facts, fill, Act.put, z1, z2, z3, z4, z5, Nat.reduceAdd] at hF hR hK ⊢
        obtain ⟨r0, -⟩ := hR
        generalize vs 0 = x0 at *
        subst r0
        go_simp
        exact hK _ _ _ hI (Step.refl hI) rfl
      · intro vs g w2 hI hF hR K hK
        simp only [Facts, fill, Act.put, z1, z2, z3, z4, z5, Nat.reduceAdd] at hF hR hK ⊢
        obtain ⟨r1, -⟩ := hR
        generalize vs 1 = x1 at *
        subst r1
        go_simp
        exact hK _ _ _ hI (Step.refl hI) rfl
      · intro vs g w2 hI hF hR K hK
        simp only [Facts, fill, Act.put, z1, z2, z3, z4, z5, Nat.reduceAdd] at hF hR hK ⊢
        obtain ⟨r1, r2, -⟩ := hR
        generalize vs 1 = x1, vs 2 = x2 at *
        subst r1 r2
        have k0 := hI.cell Cp_R1_0.out (fun _ h => by cases h)
        have k1 := hI.cell Cp_R1_1.out (fun _ h => by cases h)
        go_simp
        exact hK _ _ _ hI (Step.refl hI) rfl
      · intro vs g w2 hI hF hR K hK
        simp only [Facts, fill, Act.put, z1, z2, z3, z4, z5, Nat.reduceAdd] at hF hR hK ⊢
        obtain ⟨r1, -⟩ := hR
        generalize vs 1 = x1 at *
        subst r1
        go_simp
        exact hK _ _ _ hI (Step.refl hI) rfl
      · intro vs g w2 hI hF hR K hK
        simp only [Facts, fill, Act.put, z1, z2, z3, z4, z5, Nat.reduceAdd] at hF hR hK ⊢
        obtain ⟨r1, r4, -⟩ := hR
        generalize vs 1 = x1, vs 4 = x4 at *
        subst r1 r4
        have k0 := hI.cell Cp_R1_2.out (fun _ h => by cases h)
        have k1 := hI.cell Cp_R1_3.out (fun _ h => by cases h)
        go_simp
        exact hK _ _ _ hI (Step.refl hI) rfl
      · intro vs g w2 hI hF hR K hK
        simp only [Facts, fill, Act.put, z1, z2, z3, z4, z5, Nat.reduceAdd] at hF hR hK ⊢
        obtain ⟨r1, -⟩ := hR
        generalize vs 1 = x1 at *
        subst r1
        go_simp
        exact hK _ _ _ hI (Step.refl hI) rfl
      · intro vs g w2 hI hF hR K hK
        simp only [Facts, fill, Act.put, z1, z2, z3, z4, z5, Nat.reduceAdd] at hF hR hK ⊢
        obtain ⟨r1, r6, -⟩ := hR
        generalize vs 1 = x1, vs 6 = x6 at *
        subst r1 r6
        have k0 := hI.cell Cp_R1_4.out (fun _ h => by cases h)
        have k1 := hI.cell Cp_R1_5.out (fun _ h => by cases h)
        go_simp
        exact hK _ _ _ hI (Step.refl hI) rfl
      · intro vs g w2 hI hF hR K hK
        simp only [Facts, fill, Act.put, z1, z2, z3, z4, z5, Nat.reduceAdd] at hF hR hK ⊢
        obtain ⟨r1, -⟩ := hR
        generalize vs 1 = x1 at *
        subst r1
        go_simp
        exact hK _ _ _ hI (Step.refl hI) rfl
      · intro vs g w2 hI hF hR K hK
        simp only [Facts, fill, Act.put, z1, z2, z3, z4, z5, Nat.reduceAdd] at hF hR hK ⊢
        obtain ⟨r1, r8, -⟩ := hR
        generalize vs 1 = x1, vs 8 = x8 at *
        subst r1 r8
        have k0 := hI.cell Cp_R1_6.out (fun _ h => by cases h)
        have k1 := hI.cell Cp_R1_7.out (fun _ h => by cases h)
        go_simp
        exact hK _ _ _ hI (Step.refl hI) rfl
      · intro vs g w2 hI hF hR K hK
        simp only [Facts, fill, Act.put, z1, z2, z3, z4, z5, Nat.reduceAdd] at hF hR hK ⊢
        obtain ⟨r1, r3, r5, r7, r9, -⟩ := hR
        generalize vs 1 = x1, vs 3 = x3, vs 5 = x5, vs 7 = x7, vs 9 = x9 at *
        subst r1 r3 r5 r7 r9
        go_simp
        refine (gCircleValue hI hw (by first | assumption | (unfold S; decide)) (by first | assumption | (unfold S; decide)) (by first | assumption | (unfold S; decide)) (by first | assumption | (unfold S; decide)) (by first | assumption | (unfold S; decide)) (by first | assumption | (unfold S; decide)) (by first | assumption | (unfold S; decide)) (by first | assumption | (unfold S; decide))).mono ?_
        rintro e w3 ⟨v3, rfl, hv, hb⟩
        exact hK _ _ _ (hI.call hb) (Step.call hI hb) hv
      · intro vs g w2 hI hF hR K hK
        simp only [Facts, fill, Act.put, z1, z2, z3, z4, z5, Nat.reduceAdd] at hF hR hK ⊢
        obtain ⟨r1, -⟩ := hR
        generalize vs 1 = x1 at *
        subst r1
        have k0 := hI.cell CR13_R1_0.out (fun _ h => by cases h)
        have k1 := hI.cell CR13_R1_1.out (fun _ h => by cases h)
        go_simp
        exact hK _ _ _ hI (Step.refl hI) rfl
      · intro vs g w2 hI hF hR K hK
        simp only [Facts, fill, Act.put, z1, z2, z3, z4, z5, Nat.reduceAdd] at hF hR hK ⊢
        obtain ⟨r1, r11, -⟩ := hR
        generalize vs 1 = x1, vs 11 = x11 at *
        subst r1 r11
        go_simp
        refine (gLimbs (n := 5) hI ((numG_firm _ _) _ _ _ _ _ FR13_R1_0.out hI.keeps) (by decide) (by decide)).mono ?_
        rintro e w3 ⟨v3, rfl, hv, hb⟩
        exact hK _ _ _ (hI.call hb) (Step.call hI hb) hv
      · intro vs g w2 hI hF hR K hK
        simp only [Facts, fill, Act.put, z1, z2, z3, z4, z5, Nat.reduceAdd] at hF hR hK ⊢
        obtain ⟨r1, r10, r12, -⟩ := hR
        generalize vs 1 = x1, vs 10 = x10, vs 12 = x12 at *
        subst r1
        go_simp
        refine (gSame r10 r12 (by decide) (by first | rfl | decide +kernel | (congr 1; done) | (congr 1; unfold det; grind))).mono ?_
        rintro e w3 ⟨v3, rfl, hv, hb⟩
        exact hK _ _ _ (hI.call hb) (Step.call hI hb) hv
      · intro vs g w2 hI hF hR K hK
        simp only [Facts, fill, Act.put, z1, z2, z3, z4, z5, Nat.reduceAdd] at hF hR hK ⊢
        obtain ⟨r1, r13, -⟩ := hR
        generalize vs 1 = x1, vs 13 = x13 at *
        subst r1 r13
        go_simp
        exact hK _ _ _ hI (Step.refl hI) rfl
      · intro vs g w2 hI hF hR K hK
        simp only [Facts, fill, Act.put, z1, z2, z3, z4, z5, Nat.reduceAdd] at hF hR hK ⊢
        obtain ⟨r14, -⟩ := hR
        generalize vs 14 = x14 at *
        subst r14
        go_simp
        exact hK _ _ _ hI (Step.refl hI) rfl
      · intro vs g w2 hI hF hR K hK
        simp only [Facts, fill, Act.put, z1, z2, z3, z4, z5, Nat.reduceAdd] at hF hR hK ⊢
        obtain ⟨r15, -⟩ := hR
        generalize vs 15 = x15 at *
        subst r15
        go_simp
        exact hK _ _ _ hI (Step.refl hI) rfl
      · intro vs g w2 hI hF hR K hK
        simp only [Facts, fill, Act.put, z1, z2, z3, z4, z5, Nat.reduceAdd] at hF hR hK ⊢
        obtain ⟨r15, r16, -⟩ := hR
        generalize vs 15 = x15, vs 16 = x16 at *
        subst r15 r16
        have k0 := hI.cell Cp_R1_0.out (fun _ h => by cases h)
        have k1 := hI.cell Cp_R1_1.out (fun _ h => by cases h)
        go_simp
        exact hK _ _ _ hI (Step.refl hI) rfl
      · intro vs g w2 hI hF hR K hK
        simp only [Facts, fill, Act.put, z1, z2, z3, z4, z5, Nat.reduceAdd] at hF hR hK ⊢
        obtain ⟨r15, -⟩ := hR
        generalize vs 15 = x15 at *
        subst r15
        go_simp
        exact hK _ _ _ hI (Step.refl hI) rfl
      · intro vs g w2 hI hF hR K hK
        simp only [Facts, fill, Act.put, z1, z2, z3, z4, z5, Nat.reduceAdd] at hF hR hK ⊢
        obtain ⟨r15, r18, -⟩ := hR
        generalize vs 15 = x15, vs 18 = x18 at *
        subst r15 r18
        have k0 := hI.cell Cp_R1_2.out (fun _ h => by cases h)
        have k1 := hI.cell Cp_R1_3.out (fun _ h => by cases h)
        go_simp
        exact hK _ _ _ hI (Step.refl hI) rfl
      · intro vs g w2 hI hF hR K hK
        simp only [Facts, fill, Act.put, z1, z2, z3, z4, z5, Nat.reduceAdd] at hF hR hK ⊢
        obtain ⟨r15, -⟩ := hR
        generalize vs 15 = x15 at *
        subst r15
        go_simp
        exact hK _ _ _ hI (Step.refl hI) rfl
      · intro vs g w2 hI hF hR K hK
        simp only [Facts, fill, Act.put, z1, z2, z3, z4, z5, Nat.reduceAdd] at hF hR hK ⊢
        obtain ⟨r15, r20, -⟩ := hR
        generalize vs 15 = x15, vs 20 = x20 at *
        subst r15 r20
        have k0 := hI.cell Cp_R1_4.out (fun _ h => by cases h)
        have k1 := hI.cell Cp_R1_5.out (fun _ h => by cases h)
        go_simp
        exact hK _ _ _ hI (Step.refl hI) rfl
      · intro vs g w2 hI hF hR K hK
        simp only [Facts, fill, Act.put, z1, z2, z3, z4, z5, Nat.reduceAdd] at hF hR hK ⊢
        obtain ⟨r15, -⟩ := hR
        generalize vs 15 = x15 at *
        subst r15
        go_simp
        exact hK _ _ _ hI (Step.refl hI) rfl
      · intro vs g w2 hI hF hR K hK
        simp only [Facts, fill, Act.put, z1, z2, z3, z4, z5, Nat.reduceAdd] at hF hR hK ⊢
        obtain ⟨r15, r22, -⟩ := hR
        generalize vs 15 = x15, vs 22 = x22 at *
        subst r15 r22
        have k0 := hI.cell Cp_R1_6.out (fun _ h => by cases h)
        have k1 := hI.cell Cp_R1_7.out (fun _ h => by cases h)
        go_simp
        exact hK _ _ _ hI (Step.refl hI) rfl
      · intro vs g w2 hI hF hR K hK
        simp only [Facts, fill, Act.put, z1, z2, z3, z4, z5, Nat.reduceAdd] at hF hR hK ⊢
        obtain ⟨r15, r17, r19, r21, r23, -⟩ := hR
        generalize vs 15 = x15, vs 17 = x17, vs 19 = x19, vs 21 = x21, vs 23 = x23 at *
        subst r15 r17 r19 r21 r23
        go_simp
        refine (gCircleSign hI hw (by first | assumption | (unfold S; decide)) (by first | assumption | (unfold S; decide)) (by first | assumption | (unfold S; decide)) (by first | assumption | (unfold S; decide)) (by first | assumption | (unfold S; decide)) (by first | assumption | (unfold S; decide)) (by first | assumption | (unfold S; decide)) (by first | assumption | (unfold S; decide))).mono ?_
        rintro e w3 ⟨v3, rfl, hv, hb⟩
        exact hK _ _ _ (hI.call hb) (Step.call hI hb) hv
      · intro vs g w2 hI hF hR K hK
        simp only [Facts, fill, Act.put, z1, z2, z3, z4, z5, Nat.reduceAdd] at hF hR hK ⊢
        obtain ⟨r15, -⟩ := hR
        generalize vs 15 = x15 at *
        subst r15
        go_simp
        exact hK _ _ _ hI (Step.refl hI) rfl
      · intro vs g w2 hI hF hR K hK
        simp only [Facts, fill, Act.put, z1, z2, z3, z4, z5, Nat.reduceAdd] at hF hR hK ⊢
        obtain ⟨r15, r25, -⟩ := hR
        generalize vs 15 = x15, vs 25 = x25 at *
        subst r15 r25
        have k0 := hI.cell CR13_R1_0.out (fun _ h => by cases h)
        go_simp
        exact hK _ _ _ hI (Step.refl hI) rfl
      · intro vs g w2 hI hF hR K hK
        simp only [Facts, fill, Act.put, z1, z2, z3, z4, z5, Nat.reduceAdd] at hF hR hK ⊢
        obtain ⟨r15, r24, r26, -⟩ := hR
        generalize vs 15 = x15, vs 24 = x24, vs 26 = x26 at *
        subst r15 r26
        have q24 := r24
        obtain ⟨s24, rfl, -⟩ := r24
        have hz := sign_eq q24 ((signR_firm _) _ _ _ _ _ FR13_R1_1.out hI.keeps) (by first | rfl | exact (side_swap _ _ _ _ _ _ _ _).symm | exact (side_rot _ _ _ _ _ _ _ _).symm | (unfold det; grind))
        clear q24
        go_simp
        exact hK _ _ _ hI (Step.refl hI) rfl
      · intro vs g w2 hI hF hR K hK
        simp only [Facts, fill, Act.put, z1, z2, z3, z4, z5, Nat.reduceAdd] at hF hR hK ⊢
        obtain ⟨r15, r27, -⟩ := hR
        generalize vs 15 = x15, vs 27 = x27 at *
        subst r15 r27
        go_simp
        exact hK _ _ _ hI (Step.refl hI) rfl
      · intro vs g w2 hI hF hR K hK
        simp only [Facts, fill, Act.put, z1, z2, z3, z4, z5, Nat.reduceAdd] at hF hR hK ⊢
        obtain ⟨r28, -⟩ := hR
        generalize vs 28 = x28 at *
        subst r28
        go_simp
        exact hK _ _ _ hI (Step.refl hI) rfl
    case fin =>
      intro vs g wR2 hI hR
      have r29 := hR 29 (by decide)
      simp only [fill, Act.put, z1, z2, z3, z4, z5] at r29 ⊢
      clear hR
      generalize vs 29 = x29 at *
      have Cp_R2_0 := Lib.hid (hI.cell Cp_R1_0.out (fun _ h => by cases h))
      have Cp_R2_1 := Lib.hid (hI.cell Cp_R1_1.out (fun _ h => by cases h))
      have Cp_R2_2 := Lib.hid (hI.cell Cp_R1_2.out (fun _ h => by cases h))
      have Cp_R2_3 := Lib.hid (hI.cell Cp_R1_3.out (fun _ h => by cases h))
      have Cp_R2_4 := Lib.hid (hI.cell Cp_R1_4.out (fun _ h => by cases h))
      have Cp_R2_5 := Lib.hid (hI.cell Cp_R1_5.out (fun _ h => by cases h))
      have Cp_R2_6 := Lib.hid (hI.cell Cp_R1_6.out (fun _ h => by cases h))
      have Cp_R2_7 := Lib.hid (hI.cell Cp_R1_7.out (fun _ h => by cases h))
      have CR13_R2_0 := Lib.hid (hI.cell CR13_R1_0.out (fun _ h => by cases h))
      have CR13_R2_1 := Lib.hid (hI.cell CR13_R1_1.out (fun _ h => by cases h))
      have FR13_R2_0 := Lib.hid ((numG_firm _ _) _ _ _ _ _ FR13_R1_0.out hI.carry)
      have FR13_R2_1 := Lib.hid ((signR_firm _) _ _ _ _ _ FR13_R1_1.out hI.carry)
      subst r29
      have hBR2 := hI.below
      have HCR2 := hI.next HCR1
      clear hI
      go_wp2
      go_ret
      exact ⟨rfl, hBR2⟩
end Go.Proofs.YtckeognbfdladaaDoor
