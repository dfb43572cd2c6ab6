/-
  Law CircleSides. (Written by law5.py.)
-/
import Derived.Test.YtckeognbfdladaaDoorLaw7a
namespace Go.Proofs.YtckeognbfdladaaDoor
open Go.RowKit
set_option maxRecDepth 100000
set_option linter.unusedVariables false
set_option linter.unusedSimpArgs false

set_option maxRecDepth 100000 in
set_option maxHeartbeats 4000000 in
theorem law_circleSides (xa ya xb yb xc yc xd yd : Int) (w : World) (hw : Wts w) (sxa : S xa) (sya : S ya) (sxb : S xb) (syb : S yb) (sxc : S xc) (syc : S yc) (sxd : S xd) (syd : S yd) :
    Calls Tryd.prog 4 #[.agg #[.int .i64 xa, .int .i64 ya, .int .i64 xb, .int .i64 yb, .int .i64 xc, .int .i64 yc, .int .i64 xd, .int .i64 yd]] w fun e w' => e = .returned (.bool true) ∧ Below w.heap.size w w' := by
  obtain ⟨W, hW⟩ : ∃ W, W = w.alloc (.cells #[.int .i64 xa, .int .i64 ya, .int .i64 xb, .int .i64 yb, .int .i64 xc, .int .i64 yc, .int .i64 xd, .int .i64 yd] 24) := ⟨_, rfl⟩
  have hb0 : Below w.heap.size w W := by rw [hW]; exact ((Below.refl _ _).alloc (Nat.le_refl _) _)
  have Cp_W_0 := Lib.hid (show W.cell? ⟨w.heap.size, 0, none⟩ = some (.int .i64 xa) by rw [hW]; simp [go_sem])
  have Cp_W_1 := Lib.hid (show W.cell? ⟨w.heap.size, 1, none⟩ = some (.int .i64 ya) by rw [hW]; simp [go_sem])
  have Cp_W_2 := Lib.hid (show W.cell? ⟨w.heap.size, 2, none⟩ = some (.int .i64 xb) by rw [hW]; simp [go_sem])
  have Cp_W_3 := Lib.hid (show W.cell? ⟨w.heap.size, 3, none⟩ = some (.int .i64 yb) by rw [hW]; simp [go_sem])
  have Cp_W_4 := Lib.hid (show W.cell? ⟨w.heap.size, 4, none⟩ = some (.int .i64 xc) by rw [hW]; simp [go_sem])
  have Cp_W_5 := Lib.hid (show W.cell? ⟨w.heap.size, 5, none⟩ = some (.int .i64 yc) by rw [hW]; simp [go_sem])
  have Cp_W_6 := Lib.hid (show W.cell? ⟨w.heap.size, 6, none⟩ = some (.int .i64 xd) by rw [hW]; simp [go_sem])
  have Cp_W_7 := Lib.hid (show W.cell? ⟨w.heap.size, 7, none⟩ = some (.int .i64 yd) by rw [hW]; simp [go_sem])
  have HW := Lib.hid hW
  clear hW
  go_enter Tryd.func4, Tryd.ntmps4
  go_upto_region 1 with (fail)
  rw [← HW.out]
  refine box_plan0 (c := ⟨w, W, (fun _ => none)⟩) (Ctx.ok_none hb0) [[], [(4, 0)], [], [(6, 2)], [], [(8, 4)], [], [(10, 6)], [(5, 1), (7, 3), (9, 5), (11, 7)], [(12, 8)]] [(4, 0), (5, 1), (6, 2), (7, 3), (8, 4), (9, 5), (10, 6), (11, 7), (12, 8), (3, 9)] [
      (fun v _ _ => v = .pointer (some ⟨w.heap.size, 0, none⟩)),
      (fun v _ _ => v = .agg #[.int .i64 xa, .int .i64 ya]),
      (fun v _ _ => v = .pointer (some ⟨w.heap.size, 2, none⟩)),
      (fun v _ _ => v = .agg #[.int .i64 xb, .int .i64 yb]),
      (fun v _ _ => v = .pointer (some ⟨w.heap.size, 4, none⟩)),
      (fun v _ _ => v = .agg #[.int .i64 xc, .int .i64 yc]),
      (fun v _ _ => v = .pointer (some ⟨w.heap.size, 6, none⟩)),
      (fun v _ _ => v = .agg #[.int .i64 xd, .int .i64 yd]),
      SignR ((lc xa ya xb yb xc yc xd yd) * (det xa ya xb yb xc yc)),
      SignR ((lc xa ya xb yb xc yc xd yd) * (det xa ya xb yb xc yc))
    ] (fun _ => none) (by kernel_rfl) (by kernel_rfl) ⟨stab_eq, stab_eq, stab_eq, stab_eq, stab_eq, stab_eq, stab_eq, stab_eq, stab_firm (signR_firm _), stab_firm (signR_firm _), trivial⟩ ?steps ?fin
  case steps =>
    refine ⟨?_, ?_, ?_, ?_, ?_, ?_, ?_, ?_, ?_, ?_, trivial⟩
    · intro vs g w2 hI hF hR K hK
      simp only [Facts, fill, Act.put, z1, z2, z3, z4, z5, Nat.reduceAdd] at hF hR hK ⊢
      go_simp
      exact hK _ _ _ hI (Step.refl hI) rfl
    · intro vs g w2 hI hF hR K hK
      simp only [Facts, fill, Act.put, z1, z2, z3, z4, z5, Nat.reduceAdd] at hF hR hK ⊢
      obtain ⟨r0, -⟩ := hR
      generalize vs 0 = x0 at *
      subst r0
      have k0 := hI.cell Cp_W_0.out (fun _ h => by cases h)
      have k1 := hI.cell Cp_W_1.out (fun _ h => by cases h)
      go_simp
      exact hK _ _ _ hI (Step.refl hI) rfl
    · intro vs g w2 hI hF hR K hK
      simp only [Facts, fill, Act.put, z1, z2, z3, z4, z5, Nat.reduceAdd] at hF hR hK ⊢
      go_simp
      exact hK _ _ _ hI (Step.refl hI) rfl
    · intro vs g w2 hI hF hR K hK
      simp only [Facts, fill, Act.put, z1, z2, z3, z4, z5, Nat.reduceAdd] at hF hR hK ⊢
      obtain ⟨r2, -⟩ := hR
      generalize vs 2 = x2 at *
      subst r2
      have k0 := hI.cell Cp_W_2.out (fun _ h => by cases h)
      have k1 := hI.cell Cp_W_3.out (fun _ h => by cases h)
      go_simp
      exact hK _ _ _ hI (Step.refl hI) rfl
    · intro vs g w2 hI hF hR K hK
      simp only [Facts, fill, Act.put, z1, z2, z3, z4, z5, Nat.reduceAdd] at hF hR hK ⊢
      go_simp
      exact hK _ _ _ hI (Step.refl hI) rfl
    · intro vs g w2 hI hF hR K hK
      simp only [Facts, fill, Act.put, z1, z2, z3, z4, z5, Nat.reduceAdd] at hF hR hK ⊢
      obtain ⟨r4, -⟩ := hR
      generalize vs 4 = x4 at *
      subst r4
      have k0 := hI.cell Cp_W_4.out (fun _ h => by cases h)
      have k1 := hI.cell Cp_W_5.out (fun _ h => by cases h)
      go_simp
      exact hK _ _ _ hI (Step.refl hI) rfl
    · intro vs g w2 hI hF hR K hK
      simp only [Facts, fill, Act.put, z1, z2, z3, z4, z5, Nat.reduceAdd] at hF hR hK ⊢
      go_simp
      exact hK _ _ _ hI (Step.refl hI) rfl
    · intro vs g w2 hI hF hR K hK
      simp only [Facts, fill, Act.put, z1, z2, z3, z4, z5, Nat.reduceAdd] at hF hR hK ⊢
      obtain ⟨r6, -⟩ := hR
      generalize vs 6 = x6 at *
      subst r6
      have k0 := hI.cell Cp_W_6.out (fun _ h => by cases h)
      have k1 := hI.cell Cp_W_7.out (fun _ h => by cases h)
      go_simp
      exact hK _ _ _ hI (Step.refl hI) rfl
    · intro vs g w2 hI hF hR K hK
      simp only [Facts, fill, Act.put, z1, z2, z3, z4, z5, Nat.reduceAdd] at hF hR hK ⊢
      obtain ⟨r1, r3, r5, r7, -⟩ := hR
      generalize vs 1 = x1, vs 3 = x3, vs 5 = x5, vs 7 = x7 at *
      subst r1 r3 r5 r7
      go_simp
      refine (gCircleSide hI hw (by first | assumption | (unfold S; decide)) (by first | assumption | (unfold S; decide)) (by first | assumption | (unfold S; decide)) (by first | assumption | (unfold S; decide)) (by first | assumption | (unfold S; decide)) (by first | assumption | (unfold S; decide)) (by first | assumption | (unfold S; decide)) (by first | assumption | (unfold S; decide))).mono ?_
      rintro e w3 ⟨v3, rfl, hv, hb⟩
      exact hK _ _ _ (hI.call hb) (Step.call hI hb) hv
    · intro vs g w2 hI hF hR K hK
      simp only [Facts, fill, Act.put, z1, z2, z3, z4, z5, Nat.reduceAdd] at hF hR hK ⊢
      obtain ⟨r8, -⟩ := hR
      generalize vs 8 = x8 at *
      go_simp
      exact hK _ _ _ hI (Step.refl hI) r8
  case fin =>
    intro vs g wR1 hI hR
    have r9 := hR 9 (by decide)
    simp only [fill, Act.put, z1, z2, z3, z4, z5] at r9 ⊢
    clear hR
    generalize vs 9 = x9 at *
    have Cp_R1_0 := Lib.hid (hI.cell Cp_W_0.out (fun _ h => by cases h))
    have Cp_R1_1 := Lib.hid (hI.cell Cp_W_1.out (fun _ h => by cases h))
    have Cp_R1_2 := Lib.hid (hI.cell Cp_W_2.out (fun _ h => by cases h))
    have Cp_R1_3 := Lib.hid (hI.cell Cp_W_3.out (fun _ h => by cases h))
    have Cp_R1_4 := Lib.hid (hI.cell Cp_W_4.out (fun _ h => by cases h))
    have Cp_R1_5 := Lib.hid (hI.cell Cp_W_5.out (fun _ h => by cases h))
    have Cp_R1_6 := Lib.hid (hI.cell Cp_W_6.out (fun _ h => by cases h))
    have Cp_R1_7 := Lib.hid (hI.cell Cp_W_7.out (fun _ h => by cases h))
    have qfR13 := r9
    obtain ⟨svR13, rfl, -⟩ := signR_open r9
    have FR13_R1_0 := Lib.hid ((signR_firm _) _ _ _ _ _ qfR13 hI.back)
    clear qfR13
    have hBR1 := hI.below
    have HCR1 := hI.next (Ctx.ok_none hb0)
    clear hI
    go_upto_region 2 with (fail)
    refine box_plan0 (c := ⟨w, wR1, (fun _ => none)⟩) HCR1 [[], [(13, 0)], [(14, 1)], [(14, 1)], [(14, 1), (16, 3)], [(14, 1)], [(14, 1), (18, 5)], [(14, 1)], [(14, 1), (20, 7)], [(14, 1)], [(14, 1), (22, 9)], [(14, 1), (17, 4), (19, 6), (21, 8), (23, 10)], [(14, 1), (15, 2), (24, 11)], [(14, 1), (25, 12)], [(26, 13)], [(27, 14)], [(27, 14)], [(27, 14), (29, 16)], [(27, 14)], [(27, 14), (31, 18)], [(27, 14)], [(27, 14), (33, 20)], [(27, 14)], [(27, 14), (35, 22)], [(27, 14), (30, 17), (32, 19), (34, 21), (36, 23)], [(27, 14), (28, 15), (37, 24)], [(27, 14), (38, 25)], [(39, 26)], [(40, 27)], [(40, 27)], [(40, 27), (42, 29)], [(40, 27)], [(40, 27), (44, 31)], [(40, 27)], [(40, 27), (46, 33)], [(40, 27)], [(40, 27), (48, 35)], [(40, 27), (43, 30), (45, 32), (47, 34), (49, 36)], [(40, 27), (41, 28), (50, 37)], [(40, 27), (51, 38)], [(52, 39)]] [(13, 0), (14, 1), (15, 2), (16, 3), (17, 4), (18, 5), (19, 6), (20, 7), (21, 8), (22, 9), (23, 10), (24, 11), (25, 12), (26, 13), (27, 14), (28, 15), (29, 16), (30, 17), (31, 18), (32, 19), (33, 20), (34, 21), (35, 22), (36, 23), (37, 24), (38, 25), (39, 26), (40, 27), (41, 28), (42, 29), (43, 30), (44, 31), (45, 32), (46, 33), (47, 34), (48, 35), (49, 36), (50, 37), (51, 38), (52, 39), (2, 40)] [
        (fun v _ _ => v = .bool true),
        (fun v _ _ => v = .bool true),
        (fun v _ _ => v = .int .i64 svR13),
        (fun v _ _ => v = .pointer (some ⟨w.heap.size, 0, none⟩)),
        (fun v _ _ => v = .agg #[.int .i64 xa, .int .i64 ya]),
        (fun v _ _ => v = .pointer (some ⟨w.heap.size, 2, none⟩)),
        (fun v _ _ => v = .agg #[.int .i64 xb, .int .i64 yb]),
        (fun v _ _ => v = .pointer (some ⟨w.heap.size, 4, none⟩)),
        (fun v _ _ => v = .agg #[.int .i64 xc, .int .i64 yc]),
        (fun v _ _ => v = .pointer (some ⟨w.heap.size, 6, none⟩)),
        (fun v _ _ => v = .agg #[.int .i64 xd, .int .i64 yd]),
        SignR ((lc xa ya xb yb xc yc xd yd) * (det xa ya xb yb xc yc)),
        (fun v _ _ => v = .bool true),
        (fun v _ _ => v = .bool true),
        (fun v _ _ => v = .bool true),
        (fun v _ _ => v = .int .i64 svR13),
        (fun v _ _ => v = .pointer (some ⟨w.heap.size, 2, none⟩)),
        (fun v _ _ => v = .agg #[.int .i64 xb, .int .i64 yb]),
        (fun v _ _ => v = .pointer (some ⟨w.heap.size, 0, none⟩)),
        (fun v _ _ => v = .agg #[.int .i64 xa, .int .i64 ya]),
        (fun v _ _ => v = .pointer (some ⟨w.heap.size, 4, none⟩)),
        (fun v _ _ => v = .agg #[.int .i64 xc, .int .i64 yc]),
        (fun v _ _ => v = .pointer (some ⟨w.heap.size, 6, none⟩)),
        (fun v _ _ => v = .agg #[.int .i64 xd, .int .i64 yd]),
        SignR ((lc xb yb xa ya xc yc xd yd) * (det xb yb xa ya xc yc)),
        (fun v _ _ => v = .bool true),
        (fun v _ _ => v = .bool true),
        (fun v _ _ => v = .bool true),
        (fun v _ _ => v = .int .i64 svR13),
        (fun v _ _ => v = .pointer (some ⟨w.heap.size, 4, none⟩)),
        (fun v _ _ => v = .agg #[.int .i64 xc, .int .i64 yc]),
        (fun v _ _ => v = .pointer (some ⟨w.heap.size, 0, none⟩)),
        (fun v _ _ => v = .agg #[.int .i64 xa, .int .i64 ya]),
        (fun v _ _ => v = .pointer (some ⟨w.heap.size, 2, none⟩)),
        (fun v _ _ => v = .agg #[.int .i64 xb, .int .i64 yb]),
        (fun v _ _ => v = .pointer (some ⟨w.heap.size, 6, none⟩)),
        (fun v _ _ => v = .agg #[.int .i64 xd, .int .i64 yd]),
        SignR ((lc xc yc xa ya xb yb xd yd) * (det xc yc xa ya xb yb)),
        (fun v _ _ => v = .bool true),
        (fun v _ _ => v = .bool true),
        (fun v _ _ => v = .bool true)
      ] (fun _ => none) (by kernel_rfl) (by kernel_rfl) ⟨stab_eq, stab_eq, stab_eq, stab_eq, stab_eq, stab_eq, stab_eq, stab_eq, stab_eq, stab_eq, stab_eq, stab_firm (signR_firm _), stab_eq, stab_eq, stab_eq, stab_eq, stab_eq, stab_eq, stab_eq, stab_eq, stab_eq, stab_eq, stab_eq, stab_eq, stab_firm (signR_firm _), stab_eq, stab_eq, stab_eq, stab_eq, stab_eq, stab_eq, stab_eq, stab_eq, stab_eq, stab_eq, stab_eq, stab_eq, stab_firm (signR_firm _), stab_eq, stab_eq, stab_eq, trivial⟩ ?steps ?fin
    case steps =>
      refine ⟨?_, ?_, ?_, ?_, ?_, ?_, ?_, ?_, ?_, ?_, ?_, ?_, ?_, ?_, ?_, ?_, ?_, ?_, ?_, ?_, ?_, ?_, ?_, ?_, ?_, ?_, ?_, ?_, ?_, ?_, ?_, ?_, ?_, ?_, ?_, ?_, ?_, ?_, ?_, ?_, ?_, trivial⟩
      · intro vs g w2 hI hF hR K hK
        simp only [Facts, fill, Act.put, z1, z2, z3, z4, z5, Nat.reduceAdd] at hF hR hK ⊢
        go_simp
        refine (gAlive7 hI hw).mono ?_
        rintro e w3 ⟨v3, rfl, hv, hb⟩
        exact hK _ _ _ (hI.call hb) (Step.call hI hb) hv
      · intro vs g w2 hI hF hR K hK
        simp only [Facts, fill, Act.put, z1, z2, z3, z4, z5, Nat.reduceAdd] at hF hR hK ⊢
        obtain ⟨r0, -⟩ := hR
        generalize vs 0 = x0 at *
        subst r0
        go_simp
        exact hK _ _ _ hI (Step.refl hI) rfl
      · intro vs g w2 hI hF hR K hK
        simp only [Facts, fill, Act.put, z1, z2, z3, z4, z5, Nat.reduceAdd] at hF hR hK ⊢
        obtain ⟨r1, -⟩ := hR
        generalize vs 1 = x1 at *
        subst r1
        go_simp
        exact hK _ _ _ hI (Step.refl hI) rfl
      · intro vs g w2 hI hF hR K hK
        simp only [Facts, fill, Act.put, z1, z2, z3, z4, z5, Nat.reduceAdd] at hF hR hK ⊢
        obtain ⟨r1, -⟩ := hR
        generalize vs 1 = x1 at *
        subst r1
        go_simp
        exact hK _ _ _ hI (Step.refl hI) rfl
      · intro vs g w2 hI hF hR K hK
        simp only [Facts, fill, Act.put, z1, z2, z3, z4, z5, Nat.reduceAdd] at hF hR hK ⊢
        obtain ⟨r1, r3, -⟩ := hR
        generalize vs 1 = x1, vs 3 = x3 at *
        subst r1 r3
        have k0 := hI.cell Cp_R1_0.out (fun _ h => by cases h)
        have k1 := hI.cell Cp_R1_1.out (fun _ h => by cases h)
        go_simp
        exact hK _ _ _ hI (Step.refl hI) rfl
      · intro vs g w2 hI hF hR K hK
        simp only [Facts, fill, Act.put, z1, z2, z3, z4, z5, Nat.reduceAdd] at hF hR hK ⊢
        obtain ⟨r1, -⟩ := hR
        generalize vs 1 = x1 at *
        subst r1
        go_simp
        exact hK _ _ _ hI (Step.refl hI) rfl
      · intro vs g w2 hI hF hR K hK
        simp only [Facts, fill, Act.put, z1, z2, z3, z4, z5, Nat.reduceAdd] at hF hR hK ⊢
        obtain ⟨r1, r5, -⟩ := hR
        generalize vs 1 = x1, vs 5 = x5 at *
        subst r1 r5
        have k0 := hI.cell Cp_R1_2.out (fun _ h => by cases h)
        have k1 := hI.cell Cp_R1_3.out (fun _ h => by cases h)
        go_simp
        exact hK _ _ _ hI (Step.refl hI) rfl
      · intro vs g w2 hI hF hR K hK
        simp only [Facts, fill, Act.put, z1, z2, z3, z4, z5, Nat.reduceAdd] at hF hR hK ⊢
        obtain ⟨r1, -⟩ := hR
        generalize vs 1 = x1 at *
        subst r1
        go_simp
        exact hK _ _ _ hI (Step.refl hI) rfl
      · intro vs g w2 hI hF hR K hK
        simp only [Facts, fill, Act.put, z1, z2, z3, z4, z5, Nat.reduceAdd] at hF hR hK ⊢
        obtain ⟨r1, r7, -⟩ := hR
        generalize vs 1 = x1, vs 7 = x7 at *
        subst r1 r7
        have k0 := hI.cell Cp_R1_4.out (fun _ h => by cases h)
        have k1 := hI.cell Cp_R1_5.out (fun _ h => by cases h)
        go_simp
        exact hK _ _ _ hI (Step.refl hI) rfl
      · intro vs g w2 hI hF hR K hK
        simp only [Facts, fill, Act.put, z1, z2, z3, z4, z5, Nat.reduceAdd] at hF hR hK ⊢
        obtain ⟨r1, -⟩ := hR
        generalize vs 1 = x1 at *
        subst r1
        go_simp
        exact hK _ _ _ hI (Step.refl hI) rfl
      · intro vs g w2 hI hF hR K hK
        simp only [Facts, fill, Act.put, z1, z2, z3, z4, z5, Nat.reduceAdd] at hF hR hK ⊢
        obtain ⟨r1, r9, -⟩ := hR
        generalize vs 1 = x1, vs 9 = x9 at *
        subst r1 r9
        have k0 := hI.cell Cp_R1_6.out (fun _ h => by cases h)
        have k1 := hI.cell Cp_R1_7.out (fun _ h => by cases h)
        go_simp
        exact hK _ _ _ hI (Step.refl hI) rfl
      · intro vs g w2 hI hF hR K hK
        simp only [Facts, fill, Act.put, z1, z2, z3, z4, z5, Nat.reduceAdd] at hF hR hK ⊢
        obtain ⟨r1, r4, r6, r8, r10, -⟩ := hR
        generalize vs 1 = x1, vs 4 = x4, vs 6 = x6, vs 8 = x8, vs 10 = x10 at *
        subst r1 r4 r6 r8 r10
        go_simp
        refine (gRef7Side hI (by first | assumption | (unfold S; decide)) (by first | assumption | (unfold S; decide)) (by first | assumption | (unfold S; decide)) (by first | assumption | (unfold S; decide)) (by first | assumption | (unfold S; decide)) (by first | assumption | (unfold S; decide)) (by first | assumption | (unfold S; decide)) (by first | assumption | (unfold S; decide))).mono ?_
        rintro e w3 ⟨v3, rfl, hv, hb⟩
        exact hK _ _ _ (hI.call hb) (Step.call hI hb) hv
      · intro vs g w2 hI hF hR K hK
        simp only [Facts, fill, Act.put, z1, z2, z3, z4, z5, Nat.reduceAdd] at hF hR hK ⊢
        obtain ⟨r1, r2, r11, -⟩ := hR
        generalize vs 1 = x1, vs 2 = x2, vs 11 = x11 at *
        subst r1 r2
        have q11 := r11
        obtain ⟨s11, rfl, -⟩ := r11
        have hz := sign_eq ((signR_firm _) _ _ _ _ _ FR13_R1_0.out hI.keeps) q11 (by first | rfl | exact (side_swap _ _ _ _ _ _ _ _).symm | exact (side_rot _ _ _ _ _ _ _ _).symm | (unfold det; grind))
        clear q11
        go_simp
        exact hK _ _ _ hI (Step.refl hI) rfl
      · intro vs g w2 hI hF hR K hK
        simp only [Facts, fill, Act.put, z1, z2, z3, z4, z5, Nat.reduceAdd] at hF hR hK ⊢
        obtain ⟨r1, r12, -⟩ := hR
        generalize vs 1 = x1, vs 12 = x12 at *
        subst r1 r12
        go_simp
        exact hK _ _ _ hI (Step.refl hI) rfl
      · intro vs g w2 hI hF hR K hK
        simp only [Facts, fill, Act.put, z1, z2, z3, z4, z5, Nat.reduceAdd] at hF hR hK ⊢
        obtain ⟨r13, -⟩ := hR
        generalize vs 13 = x13 at *
        subst r13
        go_simp
        exact hK _ _ _ hI (Step.refl hI) rfl
      · intro vs g w2 hI hF hR K hK
        simp only [Facts, fill, Act.put, z1, z2, z3, z4, z5, Nat.reduceAdd] at hF hR hK ⊢
        obtain ⟨r14, -⟩ := hR
        generalize vs 14 = x14 at *
        subst r14
        go_simp
        exact hK _ _ _ hI (Step.refl hI) rfl
      · intro vs g w2 hI hF hR K hK
        simp only [Facts, fill, Act.put, z1, z2, z3, z4, z5, Nat.reduceAdd] at hF hR hK ⊢
        obtain ⟨r14, -⟩ := hR
        generalize vs 14 = x14 at *
        subst r14
        go_simp
        exact hK _ _ _ hI (Step.refl hI) rfl
      · intro vs g w2 hI hF hR K hK
        simp only [Facts, fill, Act.put, z1, z2, z3, z4, z5, Nat.reduceAdd] at hF hR hK ⊢
        obtain ⟨r14, r16, -⟩ := hR
        generalize vs 14 = x14, vs 16 = x16 at *
        subst r14 r16
        have k0 := hI.cell Cp_R1_2.out (fun _ h => by cases h)
        have k1 := hI.cell Cp_R1_3.out (fun _ h => by cases h)
        go_simp
        exact hK _ _ _ hI (Step.refl hI) rfl
      · intro vs g w2 hI hF hR K hK
        simp only [Facts, fill, Act.put, z1, z2, z3, z4, z5, Nat.reduceAdd] at hF hR hK ⊢
        obtain ⟨r14, -⟩ := hR
        generalize vs 14 = x14 at *
        subst r14
        go_simp
        exact hK _ _ _ hI (Step.refl hI) rfl
      · intro vs g w2 hI hF hR K hK
        simp only [Facts, fill, Act.put, z1, z2, z3, z4, z5, Nat.reduceAdd] at hF hR hK ⊢
        obtain ⟨r14, r18, -⟩ := hR
        generalize vs 14 = x14, vs 18 = x18 at *
        subst r14 r18
        have k0 := hI.cell Cp_R1_0.out (fun _ h => by cases h)
        have k1 := hI.cell Cp_R1_1.out (fun _ h => by cases h)
        go_simp
        exact hK _ _ _ hI (Step.refl hI) rfl
      · intro vs g w2 hI hF hR K hK
        simp only [Facts, fill, Act.put, z1, z2, z3, z4, z5, Nat.reduceAdd] at hF hR hK ⊢
        obtain ⟨r14, -⟩ := hR
        generalize vs 14 = x14 at *
        subst r14
        go_simp
        exact hK _ _ _ hI (Step.refl hI) rfl
      · intro vs g w2 hI hF hR K hK
        simp only [Facts, fill, Act.put, z1, z2, z3, z4, z5, Nat.reduceAdd] at hF hR hK ⊢
        obtain ⟨r14, r20, -⟩ := hR
        generalize vs 14 = x14, vs 20 = x20 at *
        subst r14 r20
        have k0 := hI.cell Cp_R1_4.out (fun _ h => by cases h)
        have k1 := hI.cell Cp_R1_5.out (fun _ h => by cases h)
        go_simp
        exact hK _ _ _ hI (Step.refl hI) rfl
      · intro vs g w2 hI hF hR K hK
        simp only [Facts, fill, Act.put, z1, z2, z3, z4, z5, Nat.reduceAdd] at hF hR hK ⊢
        obtain ⟨r14, -⟩ := hR
        generalize vs 14 = x14 at *
        subst r14
        go_simp
        exact hK _ _ _ hI (Step.refl hI) rfl
      · intro vs g w2 hI hF hR K hK
        simp only [Facts, fill, Act.put, z1, z2, z3, z4, z5, Nat.reduceAdd] at hF hR hK ⊢
        obtain ⟨r14, r22, -⟩ := hR
        generalize vs 14 = x14, vs 22 = x22 at *
        subst r14 r22
        have k0 := hI.cell Cp_R1_6.out (fun _ h => by cases h)
        have k1 := hI.cell Cp_R1_7.out (fun _ h => by cases h)
        go_simp
        exact hK _ _ _ hI (Step.refl hI) rfl
      · intro vs g w2 hI hF hR K hK
        simp only [Facts, fill, Act.put, z1, z2, z3, z4, z5, Nat.reduceAdd] at hF hR hK ⊢
        obtain ⟨r14, r17, r19, r21, r23, -⟩ := hR
        generalize vs 14 = x14, vs 17 = x17, vs 19 = x19, vs 21 = x21, vs 23 = x23 at *
        subst r14 r17 r19 r21 r23
        go_simp
        refine (gCircleSide hI hw (by first | assumption | (unfold S; decide)) (by first | assumption | (unfold S; decide)) (by first | assumption | (unfold S; decide)) (by first | assumption | (unfold S; decide)) (by first | assumption | (unfold S; decide)) (by first | assumption | (unfold S; decide)) (by first | assumption | (unfold S; decide)) (by first | assumption | (unfold S; decide))).mono ?_
        rintro e w3 ⟨v3, rfl, hv, hb⟩
        exact hK _ _ _ (hI.call hb) (Step.call hI hb) hv
      · intro vs g w2 hI hF hR K hK
        simp only [Facts, fill, Act.put, z1, z2, z3, z4, z5, Nat.reduceAdd] at hF hR hK ⊢
        obtain ⟨r14, r15, r24, -⟩ := hR
        generalize vs 14 = x14, vs 15 = x15, vs 24 = x24 at *
        subst r14 r15
        have q24 := r24
        obtain ⟨s24, rfl, -⟩ := r24
        have hz := sign_eq ((signR_firm _) _ _ _ _ _ FR13_R1_0.out hI.keeps) q24 (by first | rfl | exact (side_swap _ _ _ _ _ _ _ _).symm | exact (side_rot _ _ _ _ _ _ _ _).symm | (unfold det; grind))
        clear q24
        go_simp
        exact hK _ _ _ hI (Step.refl hI) rfl
      · intro vs g w2 hI hF hR K hK
        simp only [Facts, fill, Act.put, z1, z2, z3, z4, z5, Nat.reduceAdd] at hF hR hK ⊢
        obtain ⟨r14, r25, -⟩ := hR
        generalize vs 14 = x14, vs 25 = x25 at *
        subst r14 r25
        go_simp
        exact hK _ _ _ hI (Step.refl hI) rfl
      · intro vs g w2 hI hF hR K hK
        simp only [Facts, fill, Act.put, z1, z2, z3, z4, z5, Nat.reduceAdd] at hF hR hK ⊢
        obtain ⟨r26, -⟩ := hR
        generalize vs 26 = x26 at *
        subst r26
        go_simp
        exact hK _ _ _ hI (Step.refl hI) rfl
      · intro vs g w2 hI hF hR K hK
        simp only [Facts, fill, Act.put, z1, z2, z3, z4, z5, Nat.reduceAdd] at hF hR hK ⊢
        obtain ⟨r27, -⟩ := hR
        generalize vs 27 = x27 at *
        subst r27
        go_simp
        exact hK _ _ _ hI (Step.refl hI) rfl
      · intro vs g w2 hI hF hR K hK
        simp only [Facts, fill, Act.put, z1, z2, z3, z4, z5, Nat.reduceAdd] at hF hR hK ⊢
        obtain ⟨r27, -⟩ := hR
        generalize vs 27 = x27 at *
        subst r27
        go_simp
        exact hK _ _ _ hI (Step.refl hI) rfl
      · intro vs g w2 hI hF hR K hK
        simp only [Facts, fill, Act.put, z1, z2, z3, z4, z5, Nat.reduceAdd] at hF hR hK ⊢
        obtain ⟨r27, r29, -⟩ := hR
        generalize vs 27 = x27, vs 29 = x29 at *
        subst r27 r29
        have k0 := hI.cell Cp_R1_4.out (fun _ h => by cases h)
        have k1 := hI.cell Cp_R1_5.out (fun _ h => by cases h)
        go_simp
        exact hK _ _ _ hI (Step.refl hI) rfl
      · intro vs g w2 hI hF hR K hK
        simp only [Facts, fill, Act.put, z1, z2, z3, z4, z5, Nat.reduceAdd] at hF hR hK ⊢
        obtain ⟨r27, -⟩ := hR
        generalize vs 27 = x27 at *
        subst r27
        go_simp
        exact hK _ _ _ hI (Step.refl hI) rfl
      · intro vs g w2 hI hF hR K hK
        simp only [Facts, fill, Act.put, z1, z2, z3, z4, z5, Nat.reduceAdd] at hF hR hK ⊢
        obtain ⟨r27, r31, -⟩ := hR
        generalize vs 27 = x27, vs 31 = x31 at *
        subst r27 r31
        have k0 := hI.cell Cp_R1_0.out (fun _ h => by cases h)
        have k1 := hI.cell Cp_R1_1.out (fun _ h => by cases h)
        go_simp
        exact hK _ _ _ hI (Step.refl hI) rfl
      · intro vs g w2 hI hF hR K hK
        simp only [Facts, fill, Act.put, z1, z2, z3, z4, z5, Nat.reduceAdd] at hF hR hK ⊢
        obtain ⟨r27, -⟩ := hR
        generalize vs 27 = x27 at *
        subst r27
        go_simp
        exact hK _ _ _ hI (Step.refl hI) rfl
      · intro vs g w2 hI hF hR K hK
        simp only [Facts, fill, Act.put, z1, z2, z3, z4, z5, Nat.reduceAdd] at hF hR hK ⊢
        obtain ⟨r27, r33, -⟩ := hR
        generalize vs 27 = x27, vs 33 = x33 at *
        subst r27 r33
        have k0 := hI.cell Cp_R1_2.out (fun _ h => by cases h)
        have k1 := hI.cell Cp_R1_3.out (fun _ h => by cases h)
        go_simp
        exact hK _ _ _ hI (Step.refl hI) rfl
      · intro vs g w2 hI hF hR K hK
        simp only [Facts, fill, Act.put, z1, z2, z3, z4, z5, Nat.reduceAdd] at hF hR hK ⊢
        obtain ⟨r27, -⟩ := hR
        generalize vs 27 = x27 at *
        subst r27
        go_simp
        exact hK _ _ _ hI (Step.refl hI) rfl
      · intro vs g w2 hI hF hR K hK
        simp only [Facts, fill, Act.put, z1, z2, z3, z4, z5, Nat.reduceAdd] at hF hR hK ⊢
        obtain ⟨r27, r35, -⟩ := hR
        generalize vs 27 = x27, vs 35 = x35 at *
        subst r27 r35
        have k0 := hI.cell Cp_R1_6.out (fun _ h => by cases h)
        have k1 := hI.cell Cp_R1_7.out (fun _ h => by cases h)
        go_simp
        exact hK _ _ _ hI (Step.refl hI) rfl
      · intro vs g w2 hI hF hR K hK
        simp only [Facts, fill, Act.put, z1, z2, z3, z4, z5, Nat.reduceAdd] at hF hR hK ⊢
        obtain ⟨r27, r30, r32, r34, r36, -⟩ := hR
        generalize vs 27 = x27, vs 30 = x30, vs 32 = x32, vs 34 = x34, vs 36 = x36 at *
        subst r27 r30 r32 r34 r36
        go_simp
        refine (gCircleSide hI hw (by first | assumption | (unfold S; decide)) (by first | assumption | (unfold S; decide)) (by first | assumption | (unfold S; decide)) (by first | assumption | (unfold S; decide)) (by first | assumption | (unfold S; decide)) (by first | assumption | (unfold S; decide)) (by first | assumption | (unfold S; decide)) (by first | assumption | (unfold S; decide))).mono ?_
        rintro e w3 ⟨v3, rfl, hv, hb⟩
        exact hK _ _ _ (hI.call hb) (Step.call hI hb) hv
      · intro vs g w2 hI hF hR K hK
        simp only [Facts, fill, Act.put, z1, z2, z3, z4, z5, Nat.reduceAdd] at hF hR hK ⊢
        obtain ⟨r27, r28, r37, -⟩ := hR
        generalize vs 27 = x27, vs 28 = x28, vs 37 = x37 at *
        subst r27 r28
        have q37 := r37
        obtain ⟨s37, rfl, -⟩ := r37
        have hz := sign_eq ((signR_firm _) _ _ _ _ _ FR13_R1_0.out hI.keeps) q37 (by first | rfl | exact (side_swap _ _ _ _ _ _ _ _).symm | exact (side_rot _ _ _ _ _ _ _ _).symm | (unfold det; grind))
        clear q37
        go_simp
        exact hK _ _ _ hI (Step.refl hI) rfl
      · intro vs g w2 hI hF hR K hK
        simp only [Facts, fill, Act.put, z1, z2, z3, z4, z5, Nat.reduceAdd] at hF hR hK ⊢
        obtain ⟨r27, r38, -⟩ := hR
        generalize vs 27 = x27, vs 38 = x38 at *
        subst r27 r38
        go_simp
        exact hK _ _ _ hI (Step.refl hI) rfl
      · intro vs g w2 hI hF hR K hK
        simp only [Facts, fill, Act.put, z1, z2, z3, z4, z5, Nat.reduceAdd] at hF hR hK ⊢
        obtain ⟨r39, -⟩ := hR
        generalize vs 39 = x39 at *
        subst r39
        go_simp
        exact hK _ _ _ hI (Step.refl hI) rfl
    case fin =>
      intro vs g wR2 hI hR
      have r40 := hR 40 (by decide)
      simp only [fill, Act.put, z1, z2, z3, z4, z5] at r40 ⊢
      clear hR
      generalize vs 40 = x40 at *
      have Cp_R2_0 := Lib.hid (hI.cell Cp_R1_0.out (fun _ h => by cases h))
      have Cp_R2_1 := Lib.hid (hI.cell Cp_R1_1.out (fun _ h => by cases h))
      have Cp_R2_2 := Lib.hid (hI.cell Cp_R1_2.out (fun _ h => by cases h))
      have Cp_R2_3 := Lib.hid (hI.cell Cp_R1_3.out (fun _ h => by cases h))
      have Cp_R2_4 := Lib.hid (hI.cell Cp_R1_4.out (fun _ h => by cases h))
      have Cp_R2_5 := Lib.hid (hI.cell Cp_R1_5.out (fun _ h => by cases h))
      have Cp_R2_6 := Lib.hid (hI.cell Cp_R1_6.out (fun _ h => by cases h))
      have Cp_R2_7 := Lib.hid (hI.cell Cp_R1_7.out (fun _ h => by cases h))
      have FR13_R2_0 := Lib.hid ((signR_firm _) _ _ _ _ _ FR13_R1_0.out hI.carry)
      subst r40
      have hBR2 := hI.below
      have HCR2 := hI.next HCR1
      clear hI
      go_wp2
      go_ret
      exact ⟨rfl, hBR2⟩
end Go.Proofs.YtckeognbfdladaaDoor
