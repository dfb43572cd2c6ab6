/-
  The examples of layer 6. (Written by law5.py.)
-/
import Derived.Test.YthnhabfnjjbfaaaDoorOrientC
namespace Go.Proofs.YthnhabfnjjbfaaaDoor
open Go.RowKit
set_option maxRecDepth 100000
set_option linter.unusedVariables false
set_option linter.unusedSimpArgs false

set_option maxRecDepth 100000 in
set_option maxHeartbeats 4000000 in
theorem alive6_any (w : World) (hw : Wts w) :
    Calls Tryd.prog 10 #[] w fun e w' => e = .returned (.bool true) ∧ Below w.heap.size w w' := by
  obtain ⟨W, hW⟩ : ∃ W, W = w := ⟨_, rfl⟩
  have hb0 : Below w.heap.size w W := by rw [hW]; exact Below.refl _ _
  have HW := Lib.hid hW.symm
  have HW := Lib.hid hW
  go_enter Tryd.func10, Tryd.ntmps10
  go_upto_region 1 with (fail)
  rw [← HW.out]
  refine box_plan0 (c := ⟨w, W, (fun _ => none)⟩) (Ctx.ok_none hb0) [[], [], [], [], [], [], [(1, 3), (4, 0)], [(2, 4), (5, 1)], [(3, 5), (6, 2)]] [(4, 0), (5, 1), (6, 2), (1, 3), (2, 4), (3, 5)] [
      (fun v _ _ => v = .agg #[.int .i64 0, .int .i64 0]),
      (fun v _ _ => v = .agg #[.int .i64 1, .int .i64 0]),
      (fun v _ _ => v = .agg #[.int .i64 0, .int .i64 1]),
      PtrR 3 2,
      PtrR 4 2,
      PtrR 5 2,
      (fun _ g w => BoxR 3 (fun v _ _ => v = .agg #[.int .i64 0, .int .i64 0]) g w),
      (fun _ g w => BoxR 4 (fun v _ _ => v = .agg #[.int .i64 1, .int .i64 0]) g w),
      (fun _ g w => BoxR 5 (fun v _ _ => v = .agg #[.int .i64 0, .int .i64 1]) g w)
    ] (fun i => match i with | 3 => some 6 | 4 => some 7 | 5 => some 8 | _ => none) (by kernel_rfl) (by kernel_rfl) ⟨stab_eq, stab_eq, stab_eq, stab_ptr, stab_ptr, stab_ptr, stab_box (firm_eq _) rfl, stab_box (firm_eq _) rfl, stab_box (firm_eq _) rfl, trivial⟩ ?steps ?fin
  case steps =>
    refine ⟨?_, ?_, ?_, ?_, ?_, ?_, ?_, ?_, ?_, trivial⟩
    · intro vs g w2 hI hF hR K hK
      simp only [Facts, fill, Act.put, z1, z2, z3, z4, z5, Nat.reduceAdd] at hF hR hK ⊢
      go_simp
      exact hK _ _ _ hI (Step.refl hI) rfl
    · intro vs g w2 hI hF hR K hK
      simp only [Facts, fill, Act.put, z1, z2, z3, z4, z5, Nat.reduceAdd] at hF hR hK ⊢
      go_simp
      exact hK _ _ _ hI (Step.refl hI) rfl
    · intro vs g w2 hI hF hR K hK
      simp only [Facts, fill, Act.put, z1, z2, z3, z4, z5, Nat.reduceAdd] at hF hR hK ⊢
      go_simp
      exact hK _ _ _ hI (Step.refl hI) rfl
    · intro vs g w2 hI hF hR K hK
      simp only [Facts, fill, Act.put, z1, z2, z3, z4, z5, Nat.reduceAdd] at hF hR hK ⊢
      go_simp
      exact hK _ _ _ (hI.alloc _ (hF (by decide)) _) (Step.alloc hI (hF (by decide)) _) ⟨_, rfl, more_at _ _ _, box2' _ _ _ _⟩
    · intro vs g w2 hI hF hR K hK
      simp only [Facts, fill, Act.put, z1, z2, z3, z4, z5, Nat.reduceAdd] at hF hR hK ⊢
      go_simp
      exact hK _ _ _ (hI.alloc _ (hF (by decide)) _) (Step.alloc hI (hF (by decide)) _) ⟨_, rfl, more_at _ _ _, box2' _ _ _ _⟩
    · intro vs g w2 hI hF hR K hK
      simp only [Facts, fill, Act.put, z1, z2, z3, z4, z5, Nat.reduceAdd] at hF hR hK ⊢
      go_simp
      exact hK _ _ _ (hI.alloc _ (hF (by decide)) _) (Step.alloc hI (hF (by decide)) _) ⟨_, rfl, more_at _ _ _, box2' _ _ _ _⟩
    · intro vs g w2 hI hF hR K hK
      simp only [Facts, fill, Act.put, z1, z2, z3, z4, z5, Nat.reduceAdd] at hF hR hK ⊢
      obtain ⟨r3, r0, -⟩ := hR
      generalize vs 3 = x3, vs 0 = x0 at *
      subst r0
      obtain ⟨k, rfl, hk, hbx⟩ := r3
      obtain ⟨⟨u0, k0⟩, f0⟩ := hbx 0 (by decide)
      obtain ⟨⟨u1, k1⟩, f1⟩ := hbx 1 (by decide)
      go_simp
      have ht := (((Touch.refl w2 k).set 0 (.int .i64 0)).set 1 (.int .i64 0))
      exact hK undef _ _ (hI.store (by decide) hk ht) (Step.store hI rfl hk ht) ⟨k, .agg #[.int .i64 0, .int .i64 0], hk, by rw [ht.size]; exact hI.lt _ _ hk, cells2 k0 k1 (.int .i64 0) (.int .i64 0), rfl⟩
    · intro vs g w2 hI hF hR K hK
      simp only [Facts, fill, Act.put, z1, z2, z3, z4, z5, Nat.reduceAdd] at hF hR hK ⊢
      obtain ⟨r4, r1, -⟩ := hR
      generalize vs 4 = x4, vs 1 = x1 at *
      subst r1
      obtain ⟨k, rfl, hk, hbx⟩ := r4
      obtain ⟨⟨u0, k0⟩, f0⟩ := hbx 0 (by decide)
      obtain ⟨⟨u1, k1⟩, f1⟩ := hbx 1 (by decide)
      go_simp
      have ht := (((Touch.refl w2 k).set 0 (.int .i64 1)).set 1 (.int .i64 0))
      exact hK undef _ _ (hI.store (by decide) hk ht) (Step.store hI rfl hk ht) ⟨k, .agg #[.int .i64 1, .int .i64 0], hk, by rw [ht.size]; exact hI.lt _ _ hk, cells2 k0 k1 (.int .i64 1) (.int .i64 0), rfl⟩
    · intro vs g w2 hI hF hR K hK
      simp only [Facts, fill, Act.put, z1, z2, z3, z4, z5, Nat.reduceAdd] at hF hR hK ⊢
      obtain ⟨r5, r2, -⟩ := hR
      generalize vs 5 = x5, vs 2 = x2 at *
      subst r2
      obtain ⟨k, rfl, hk, hbx⟩ := r5
      obtain ⟨⟨u0, k0⟩, f0⟩ := hbx 0 (by decide)
      obtain ⟨⟨u1, k1⟩, f1⟩ := hbx 1 (by decide)
      go_simp
      have ht := (((Touch.refl w2 k).set 0 (.int .i64 0)).set 1 (.int .i64 1))
      exact hK undef _ _ (hI.store (by decide) hk ht) (Step.store hI rfl hk ht) ⟨k, .agg #[.int .i64 0, .int .i64 1], hk, by rw [ht.size]; exact hI.lt _ _ hk, cells2 k0 k1 (.int .i64 0) (.int .i64 1), rfl⟩
  case fin =>
    intro vs g wR1 hI hR
    have r3 := hR 3 (by decide)
    have r4 := hR 4 (by decide)
    have r5 := hR 5 (by decide)
    have r6 := hR 6 (by decide)
    have r7 := hR 7 (by decide)
    have r8 := hR 8 (by decide)
    simp only [fill, Act.put, z1, z2, z3, z4, z5] at r3 r4 r5 r6 r7 r8 ⊢
    clear hR
    generalize vs 3 = x3 at *
    generalize vs 4 = x4 at *
    generalize vs 5 = x5 at *
    generalize vs 6 = x6 at *
    generalize vs 7 = x7 at *
    generalize vs 8 = x8 at *
    obtain ⟨pR11, rfl, hkR11, -⟩ := r3
    obtain ⟨qR11, uR11, hqR11, -, hcR11, hrR11⟩ := r6
    rw [hkR11] at hqR11
    injection hqR11 with hqR11
    subst hqR11
    subst hrR11
    have CR11_R1_0 := Lib.hid (hcR11 0 _ rfl)
    have CR11_R1_1 := Lib.hid (hcR11 1 _ rfl)
    clear hcR11 hkR11
    obtain ⟨pR12, rfl, hkR12, -⟩ := r4
    obtain ⟨qR12, uR12, hqR12, -, hcR12, hrR12⟩ := r7
    rw [hkR12] at hqR12
    injection hqR12 with hqR12
    subst hqR12
    subst hrR12
    have CR12_R1_0 := Lib.hid (hcR12 0 _ rfl)
    have CR12_R1_1 := Lib.hid (hcR12 1 _ rfl)
    clear hcR12 hkR12
    obtain ⟨pR13, rfl, hkR13, -⟩ := r5
    obtain ⟨qR13, uR13, hqR13, -, hcR13, hrR13⟩ := r8
    rw [hkR13] at hqR13
    injection hqR13 with hqR13
    subst hqR13
    subst hrR13
    have CR13_R1_0 := Lib.hid (hcR13 0 _ rfl)
    have CR13_R1_1 := Lib.hid (hcR13 1 _ rfl)
    clear hcR13 hkR13
    have hBR1 := hI.below
    have HCR1 := hI.next (Ctx.ok_none hb0)
    clear hI
    go_upto_region 2 with (fail)
    refine box_plan0 (c := ⟨w, wR1, (fun _ => none)⟩) HCR1 [[], [], [], [(7, 0), (8, 1), (9, 2)], [(10, 3)], [(11, 4)], [(12, 5)], [(12, 5)], [(12, 5)], [(12, 5), (13, 6), (14, 7), (15, 8)], [(12, 5), (16, 9)], [(12, 5), (17, 10)], [(18, 11)], [(19, 12)], [(19, 12)], [(19, 12)], [(19, 12), (20, 13), (21, 14), (22, 15)], [(19, 12), (23, 16)], [(19, 12), (24, 17)], [(25, 18)], [(26, 19)], [(26, 19)], [(26, 19)], [(26, 19), (27, 20), (28, 21), (29, 22)], [(26, 19)], [(26, 19), (30, 23), (31, 24)], [(26, 19), (32, 25)], [(33, 26)], [(34, 27)], [(34, 27)], [(34, 27)], [(34, 27), (35, 28), (36, 29), (37, 30)], [(34, 27), (38, 31)], [(34, 27), (39, 32)], [(40, 33)], [(41, 34)], [(41, 34)], [(41, 34)], [(41, 34), (42, 35), (43, 36), (44, 37)], [(41, 34), (45, 38)], [(41, 34), (46, 39)], [(47, 40)]] [(7, 0), (8, 1), (9, 2), (10, 3), (11, 4), (12, 5), (13, 6), (14, 7), (15, 8), (16, 9), (17, 10), (18, 11), (19, 12), (20, 13), (21, 14), (22, 15), (23, 16), (24, 17), (25, 18), (26, 19), (27, 20), (28, 21), (29, 22), (30, 23), (31, 24), (32, 25), (33, 26), (34, 27), (35, 28), (36, 29), (37, 30), (38, 31), (39, 32), (40, 33), (41, 34), (42, 35), (43, 36), (44, 37), (45, 38), (46, 39), (47, 40), (0, 41)] [
        (fun v _ _ => v = .agg #[.int .i64 0, .int .i64 0]),
        (fun v _ _ => v = .agg #[.int .i64 1, .int .i64 0]),
        (fun v _ _ => v = .agg #[.int .i64 0, .int .i64 1]),
        SignR (det 0 0 1 0 0 1),
        (fun v _ _ => v = .bool true),
        (fun v _ _ => v = .bool true),
        (fun v _ _ => v = .agg #[.int .i64 0, .int .i64 0]),
        (fun v _ _ => v = .agg #[.int .i64 0, .int .i64 1]),
        (fun v _ _ => v = .agg #[.int .i64 1, .int .i64 0]),
        SignR (det 0 0 0 1 1 0),
        (fun v _ _ => v = .bool true),
        (fun v _ _ => v = .bool true),
        (fun v _ _ => v = .bool true),
        (fun v _ _ => v = .agg #[.int .i64 0, .int .i64 0]),
        (fun v _ _ => v = .agg #[.int .i64 4611686018427387904, .int .i64 4611686018427387904]),
        (fun v _ _ => v = .agg #[.int .i64 (-9223372036854775808), .int .i64 (-9223372036854775808)]),
        SignR (det 0 0 4611686018427387904 4611686018427387904 (-9223372036854775808) (-9223372036854775808)),
        (fun v _ _ => v = .bool true),
        (fun v _ _ => v = .bool true),
        (fun v _ _ => v = .bool true),
        (fun v _ _ => v = .agg #[.int .i64 0, .int .i64 0]),
        (fun v _ _ => v = .agg #[.int .i64 1, .int .i64 0]),
        (fun v _ _ => v = .agg #[.int .i64 0, .int .i64 1]),
        LimR 3 (det 0 0 1 0 0 1),
        LimR 3 1,
        (fun v _ _ => v = .bool true),
        (fun v _ _ => v = .bool true),
        (fun v _ _ => v = .bool true),
        (fun v _ _ => v = .agg #[.int .i64 0, .int .i64 0]),
        (fun v _ _ => v = .agg #[.int .i64 1, .int .i64 0]),
        (fun v _ _ => v = .agg #[.int .i64 0, .int .i64 1]),
        (fun v _ _ => v = .int .u64 (mk (decide (0 < det 0 0 1 0 0 1)))),
        (fun v _ _ => v = .bool true),
        (fun v _ _ => v = .bool true),
        (fun v _ _ => v = .bool true),
        (fun v _ _ => v = .agg #[.int .i64 0, .int .i64 0]),
        (fun v _ _ => v = .agg #[.int .i64 1, .int .i64 0]),
        (fun v _ _ => v = .agg #[.int .i64 0, .int .i64 1]),
        (fun v _ _ => v = .int .u64 (mk (decide (det 0 0 1 0 0 1 = 0)))),
        (fun v _ _ => v = .bool true),
        (fun v _ _ => v = .bool true),
        (fun v _ _ => v = .bool true)
      ] (fun _ => none) (by kernel_rfl) (by kernel_rfl) ⟨stab_eq, stab_eq, stab_eq, stab_firm (signR_firm _), stab_eq, stab_eq, stab_eq, stab_eq, stab_eq, stab_firm (signR_firm _), stab_eq, stab_eq, stab_eq, stab_eq, stab_eq, stab_eq, stab_firm (signR_firm _), stab_eq, stab_eq, stab_eq, stab_eq, stab_eq, stab_eq, stab_firm (limR_firm _ _), stab_firm (limR_firm _ _), stab_eq, stab_eq, stab_eq, stab_eq, stab_eq, stab_eq, stab_eq, stab_eq, stab_eq, stab_eq, stab_eq, stab_eq, stab_eq, stab_eq, stab_eq, stab_eq, stab_eq, trivial⟩ ?steps ?fin
    case steps =>
      refine ⟨?_, ?_, ?_, ?_, ?_, ?_, ?_, ?_, ?_, ?_, ?_, ?_, ?_, ?_, ?_, ?_, ?_, ?_, ?_, ?_, ?_, ?_, ?_, ?_, ?_, ?_, ?_, ?_, ?_, ?_, ?_, ?_, ?_, ?_, ?_, ?_, ?_, ?_, ?_, ?_, ?_, ?_, trivial⟩
      · intro vs g w2 hI hF hR K hK
        simp only [Facts, fill, Act.put, z1, z2, z3, z4, z5, Nat.reduceAdd] at hF hR hK ⊢
        have k0 := hI.cell CR11_R1_0.out (fun _ h => by cases h)
        have k1 := hI.cell CR11_R1_1.out (fun _ h => by cases h)
        go_simp
        exact hK _ _ _ hI (Step.refl hI) rfl
      · intro vs g w2 hI hF hR K hK
        simp only [Facts, fill, Act.put, z1, z2, z3, z4, z5, Nat.reduceAdd] at hF hR hK ⊢
        have k0 := hI.cell CR12_R1_0.out (fun _ h => by cases h)
        have k1 := hI.cell CR12_R1_1.out (fun _ h => by cases h)
        go_simp
        exact hK _ _ _ hI (Step.refl hI) rfl
      · intro vs g w2 hI hF hR K hK
        simp only [Facts, fill, Act.put, z1, z2, z3, z4, z5, Nat.reduceAdd] at hF hR hK ⊢
        have k0 := hI.cell CR13_R1_0.out (fun _ h => by cases h)
        have k1 := hI.cell CR13_R1_1.out (fun _ h => by cases h)
        go_simp
        exact hK _ _ _ hI (Step.refl hI) rfl
      · intro vs g w2 hI hF hR K hK
        simp only [Facts, fill, Act.put, z1, z2, z3, z4, z5, Nat.reduceAdd] at hF hR hK ⊢
        obtain ⟨r0, r1, r2, -⟩ := hR
        generalize vs 0 = x0, vs 1 = x1, vs 2 = x2 at *
        subst r0 r1 r2
        go_simp
        refine (gOrientSign hI hw (by first | assumption | (unfold S; decide)) (by first | assumption | (unfold S; decide)) (by first | assumption | (unfold S; decide)) (by first | assumption | (unfold S; decide)) (by first | assumption | (unfold S; decide)) (by first | assumption | (unfold S; decide))).mono ?_
        rintro e w3 ⟨v3, rfl, hv, hb⟩
        exact hK _ _ _ (hI.call hb) (Step.call hI hb) hv
      · intro vs g w2 hI hF hR K hK
        simp only [Facts, fill, Act.put, z1, z2, z3, z4, z5, Nat.reduceAdd] at hF hR hK ⊢
        obtain ⟨r3, -⟩ := hR
        generalize vs 3 = x3 at *
        obtain ⟨s4, rfl, hs4⟩ := r3
        have hz := sign_is (x := det 0 0 1 0 0 1) (k := 1) ⟨s4, rfl, hs4⟩ (by decide +kernel)
        clear hs4
        go_simp
        exact hK _ _ _ hI (Step.refl hI) rfl
      · intro vs g w2 hI hF hR K hK
        simp only [Facts, fill, Act.put, z1, z2, z3, z4, z5, Nat.reduceAdd] at hF hR hK ⊢
        obtain ⟨r4, -⟩ := hR
        generalize vs 4 = x4 at *
        subst r4
        go_simp
        exact hK _ _ _ hI (Step.refl hI) rfl
      · intro vs g w2 hI hF hR K hK
        simp only [Facts, fill, Act.put, z1, z2, z3, z4, z5, Nat.reduceAdd] at hF hR hK ⊢
        obtain ⟨r5, -⟩ := hR
        generalize vs 5 = x5 at *
        subst r5
        have k0 := hI.cell CR11_R1_0.out (fun _ h => by cases h)
        have k1 := hI.cell CR11_R1_1.out (fun _ h => by cases h)
        go_simp
        exact hK _ _ _ hI (Step.refl hI) rfl
      · intro vs g w2 hI hF hR K hK
        simp only [Facts, fill, Act.put, z1, z2, z3, z4, z5, Nat.reduceAdd] at hF hR hK ⊢
        obtain ⟨r5, -⟩ := hR
        generalize vs 5 = x5 at *
        subst r5
        have k0 := hI.cell CR13_R1_0.out (fun _ h => by cases h)
        have k1 := hI.cell CR13_R1_1.out (fun _ h => by cases h)
        go_simp
        exact hK _ _ _ hI (Step.refl hI) rfl
      · intro vs g w2 hI hF hR K hK
        simp only [Facts, fill, Act.put, z1, z2, z3, z4, z5, Nat.reduceAdd] at hF hR hK ⊢
        obtain ⟨r5, -⟩ := hR
        generalize vs 5 = x5 at *
        subst r5
        have k0 := hI.cell CR12_R1_0.out (fun _ h => by cases h)
        have k1 := hI.cell CR12_R1_1.out (fun _ h => by cases h)
        go_simp
        exact hK _ _ _ hI (Step.refl hI) rfl
      · intro vs g w2 hI hF hR K hK
        simp only [Facts, fill, Act.put, z1, z2, z3, z4, z5, Nat.reduceAdd] at hF hR hK ⊢
        obtain ⟨r5, r6, r7, r8, -⟩ := hR
        generalize vs 5 = x5, vs 6 = x6, vs 7 = x7, vs 8 = x8 at *
        subst r5 r6 r7 r8
        go_simp
        refine (gOrientSign hI hw (by first | assumption | (unfold S; decide)) (by first | assumption | (unfold S; decide)) (by first | assumption | (unfold S; decide)) (by first | assumption | (unfold S; decide)) (by first | assumption | (unfold S; decide)) (by first | assumption | (unfold S; decide))).mono ?_
        rintro e w3 ⟨v3, rfl, hv, hb⟩
        exact hK _ _ _ (hI.call hb) (Step.call hI hb) hv
      · intro vs g w2 hI hF hR K hK
        simp only [Facts, fill, Act.put, z1, z2, z3, z4, z5, Nat.reduceAdd] at hF hR hK ⊢
        obtain ⟨r5, r9, -⟩ := hR
        generalize vs 5 = x5, vs 9 = x9 at *
        subst r5
        obtain ⟨s10, rfl, hs10⟩ := r9
        have hz := sign_is (x := det 0 0 0 1 1 0) (k := (-1)) ⟨s10, rfl, hs10⟩ (by decide +kernel)
        clear hs10
        go_simp
        exact hK _ _ _ hI (Step.refl hI) rfl
      · intro vs g w2 hI hF hR K hK
        simp only [Facts, fill, Act.put, z1, z2, z3, z4, z5, Nat.reduceAdd] at hF hR hK ⊢
        obtain ⟨r5, r10, -⟩ := hR
        generalize vs 5 = x5, vs 10 = x10 at *
        subst r5 r10
        go_simp
        exact hK _ _ _ hI (Step.refl hI) rfl
      · intro vs g w2 hI hF hR K hK
        simp only [Facts, fill, Act.put, z1, z2, z3, z4, z5, Nat.reduceAdd] at hF hR hK ⊢
        obtain ⟨r11, -⟩ := hR
        generalize vs 11 = x11 at *
        subst r11
        go_simp
        exact hK _ _ _ hI (Step.refl hI) rfl
      · intro vs g w2 hI hF hR K hK
        simp only [Facts, fill, Act.put, z1, z2, z3, z4, z5, Nat.reduceAdd] at hF hR hK ⊢
        obtain ⟨r12, -⟩ := hR
        generalize vs 12 = x12 at *
        subst r12
        have k0 := hI.cell CR11_R1_0.out (fun _ h => by cases h)
        have k1 := hI.cell CR11_R1_1.out (fun _ h => by cases h)
        go_simp
        exact hK _ _ _ hI (Step.refl hI) rfl
      · intro vs g w2 hI hF hR K hK
        simp only [Facts, fill, Act.put, z1, z2, z3, z4, z5, Nat.reduceAdd] at hF hR hK ⊢
        obtain ⟨r12, -⟩ := hR
        generalize vs 12 = x12 at *
        subst r12
        go_simp
        exact hK _ _ _ hI (Step.refl hI) rfl
      · intro vs g w2 hI hF hR K hK
        simp only [Facts, fill, Act.put, z1, z2, z3, z4, z5, Nat.reduceAdd] at hF hR hK ⊢
        obtain ⟨r12, -⟩ := hR
        generalize vs 12 = x12 at *
        subst r12
        go_simp
        exact hK _ _ _ hI (Step.refl hI) rfl
      · intro vs g w2 hI hF hR K hK
        simp only [Facts, fill, Act.put, z1, z2, z3, z4, z5, Nat.reduceAdd] at hF hR hK ⊢
        obtain ⟨r12, r13, r14, r15, -⟩ := hR
        generalize vs 12 = x12, vs 13 = x13, vs 14 = x14, vs 15 = x15 at *
        subst r12 r13 r14 r15
        go_simp
        refine (gOrientSign hI hw (by first | assumption | (unfold S; decide)) (by first | assumption | (unfold S; decide)) (by first | assumption | (unfold S; decide)) (by first | assumption | (unfold S; decide)) (by first | assumption | (unfold S; decide)) (by first | assumption | (unfold S; decide))).mono ?_
        rintro e w3 ⟨v3, rfl, hv, hb⟩
        exact hK _ _ _ (hI.call hb) (Step.call hI hb) hv
      · intro vs g w2 hI hF hR K hK
        simp only [Facts, fill, Act.put, z1, z2, z3, z4, z5, Nat.reduceAdd] at hF hR hK ⊢
        obtain ⟨r12, r16, -⟩ := hR
        generalize vs 12 = x12, vs 16 = x16 at *
        subst r12
        obtain ⟨s17, rfl, hs17⟩ := r16
        have hz := sign_is (x := det 0 0 4611686018427387904 4611686018427387904 (-9223372036854775808) (-9223372036854775808)) (k := 0) ⟨s17, rfl, hs17⟩ (by decide +kernel)
        clear hs17
        go_simp
        exact hK _ _ _ hI (Step.refl hI) rfl
      · intro vs g w2 hI hF hR K hK
        simp only [Facts, fill, Act.put, z1, z2, z3, z4, z5, Nat.reduceAdd] at hF hR hK ⊢
        obtain ⟨r12, r17, -⟩ := hR
        generalize vs 12 = x12, vs 17 = x17 at *
        subst r12 r17
        go_simp
        exact hK _ _ _ hI (Step.refl hI) rfl
      · intro vs g w2 hI hF hR K hK
        simp only [Facts, fill, Act.put, z1, z2, z3, z4, z5, Nat.reduceAdd] at hF hR hK ⊢
        obtain ⟨r18, -⟩ := hR
        generalize vs 18 = x18 at *
        subst r18
        go_simp
        exact hK _ _ _ hI (Step.refl hI) rfl
      · intro vs g w2 hI hF hR K hK
        simp only [Facts, fill, Act.put, z1, z2, z3, z4, z5, Nat.reduceAdd] at hF hR hK ⊢
        obtain ⟨r19, -⟩ := hR
        generalize vs 19 = x19 at *
        subst r19
        have k0 := hI.cell CR11_R1_0.out (fun _ h => by cases h)
        have k1 := hI.cell CR11_R1_1.out (fun _ h => by cases h)
        go_simp
        exact hK _ _ _ hI (Step.refl hI) rfl
      · intro vs g w2 hI hF hR K hK
        simp only [Facts, fill, Act.put, z1, z2, z3, z4, z5, Nat.reduceAdd] at hF hR hK ⊢
        obtain ⟨r19, -⟩ := hR
        generalize vs 19 = x19 at *
        subst r19
        have k0 := hI.cell CR12_R1_0.out (fun _ h => by cases h)
        have k1 := hI.cell CR12_R1_1.out (fun _ h => by cases h)
        go_simp
        exact hK _ _ _ hI (Step.refl hI) rfl
      · intro vs g w2 hI hF hR K hK
        simp only [Facts, fill, Act.put, z1, z2, z3, z4, z5, Nat.reduceAdd] at hF hR hK ⊢
        obtain ⟨r19, -⟩ := hR
        generalize vs 19 = x19 at *
        subst r19
        have k0 := hI.cell CR13_R1_0.out (fun _ h => by cases h)
        have k1 := hI.cell CR13_R1_1.out (fun _ h => by cases h)
        go_simp
        exact hK _ _ _ hI (Step.refl hI) rfl
      · intro vs g w2 hI hF hR K hK
        simp only [Facts, fill, Act.put, z1, z2, z3, z4, z5, Nat.reduceAdd] at hF hR hK ⊢
        obtain ⟨r19, r20, r21, r22, -⟩ := hR
        generalize vs 19 = x19, vs 20 = x20, vs 21 = x21, vs 22 = x22 at *
        subst r19 r20 r21 r22
        go_simp
        refine (gOrientValue hI hw (by first | assumption | (unfold S; decide)) (by first | assumption | (unfold S; decide)) (by first | assumption | (unfold S; decide)) (by first | assumption | (unfold S; decide)) (by first | assumption | (unfold S; decide)) (by first | assumption | (unfold S; decide))).mono ?_
        rintro e w3 ⟨v3, rfl, hv, hb⟩
        exact hK _ _ _ (hI.call hb) (Step.call hI hb) hv
      · intro vs g w2 hI hF hR K hK
        simp only [Facts, fill, Act.put, z1, z2, z3, z4, z5, Nat.reduceAdd] at hF hR hK ⊢
        obtain ⟨r19, -⟩ := hR
        generalize vs 19 = x19 at *
        subst r19
        go_simp
        have hb : Below w2.heap.size w2 (w2.alloc (.cells #[.int .u64 1, .int .u64 0, .int .u64 0] 36)) := (Below.refl _ _).alloc (Nat.le_refl _) _
        exact hK _ _ _ (hI.call hb) (Step.call hI hb) (lit_lim hI [1, 0, 0] 1 (by decide +kernel))
      · intro vs g w2 hI hF hR K hK
        simp only [Facts, fill, Act.put, z1, z2, z3, z4, z5, Nat.reduceAdd] at hF hR hK ⊢
        obtain ⟨r19, r23, r24, -⟩ := hR
        generalize vs 19 = x19, vs 23 = x23, vs 24 = x24 at *
        subst r19
        go_simp
        refine (gSame r23 r24 (by decide) (by first | rfl | decide +kernel | (congr 1; unfold det; grind))).mono ?_
        rintro e w3 ⟨v3, rfl, hv, hb⟩
        exact hK _ _ _ (hI.call hb) (Step.call hI hb) hv
      · intro vs g w2 hI hF hR K hK
        simp only [Facts, fill, Act.put, z1, z2, z3, z4, z5, Nat.reduceAdd] at hF hR hK ⊢
        obtain ⟨r19, r25, -⟩ := hR
        generalize vs 19 = x19, vs 25 = x25 at *
        subst r19 r25
        go_simp
        exact hK _ _ _ hI (Step.refl hI) rfl
      · intro vs g w2 hI hF hR K hK
        simp only [Facts, fill, Act.put, z1, z2, z3, z4, z5, Nat.reduceAdd] at hF hR hK ⊢
        obtain ⟨r26, -⟩ := hR
        generalize vs 26 = x26 at *
        subst r26
        go_simp
        exact hK _ _ _ hI (Step.refl hI) rfl
      · intro vs g w2 hI hF hR K hK
        simp only [Facts, fill, Act.put, z1, z2, z3, z4, z5, Nat.reduceAdd] at hF hR hK ⊢
        obtain ⟨r27, -⟩ := hR
        generalize vs 27 = x27 at *
        subst r27
        have k0 := hI.cell CR11_R1_0.out (fun _ h => by cases h)
        have k1 := hI.cell CR11_R1_1.out (fun _ h => by cases h)
        go_simp
        exact hK _ _ _ hI (Step.refl hI) rfl
      · intro vs g w2 hI hF hR K hK
        simp only [Facts, fill, Act.put, z1, z2, z3, z4, z5, Nat.reduceAdd] at hF hR hK ⊢
        obtain ⟨r27, -⟩ := hR
        generalize vs 27 = x27 at *
        subst r27
        have k0 := hI.cell CR12_R1_0.out (fun _ h => by cases h)
        have k1 := hI.cell CR12_R1_1.out (fun _ h => by cases h)
        go_simp
        exact hK _ _ _ hI (Step.refl hI) rfl
      · intro vs g w2 hI hF hR K hK
        simp only [Facts, fill, Act.put, z1, z2, z3, z4, z5, Nat.reduceAdd] at hF hR hK ⊢
        obtain ⟨r27, -⟩ := hR
        generalize vs 27 = x27 at *
        subst r27
        have k0 := hI.cell CR13_R1_0.out (fun _ h => by cases h)
        have k1 := hI.cell CR13_R1_1.out (fun _ h => by cases h)
        go_simp
        exact hK _ _ _ hI (Step.refl hI) rfl
      · intro vs g w2 hI hF hR K hK
        simp only [Facts, fill, Act.put, z1, z2, z3, z4, z5, Nat.reduceAdd] at hF hR hK ⊢
        obtain ⟨r27, r28, r29, r30, -⟩ := hR
        generalize vs 27 = x27, vs 28 = x28, vs 29 = x29, vs 30 = x30 at *
        subst r27 r28 r29 r30
        go_simp
        refine (gOrientLeft hI hw (by first | assumption | (unfold S; decide)) (by first | assumption | (unfold S; decide)) (by first | assumption | (unfold S; decide)) (by first | assumption | (unfold S; decide)) (by first | assumption | (unfold S; decide)) (by first | assumption | (unfold S; decide))).mono ?_
        rintro e w3 ⟨v3, rfl, hv, hb⟩
        exact hK _ _ _ (hI.call hb) (Step.call hI hb) hv
      · intro vs g w2 hI hF hR K hK
        simp only [Facts, fill, Act.put, z1, z2, z3, z4, z5, Nat.reduceAdd] at hF hR hK ⊢
        obtain ⟨r27, r31, -⟩ := hR
        generalize vs 27 = x27, vs 31 = x31 at *
        subst r27 r31
        have hz : ((mk (decide (0 < det 0 0 1 0 0 1))) == 18446744073709551615) = true := (by decide +kernel)
        go_simp
        exact hK _ _ _ hI (Step.refl hI) rfl
      · intro vs g w2 hI hF hR K hK
        simp only [Facts, fill, Act.put, z1, z2, z3, z4, z5, Nat.reduceAdd] at hF hR hK ⊢
        obtain ⟨r27, r32, -⟩ := hR
        generalize vs 27 = x27, vs 32 = x32 at *
        subst r27 r32
        go_simp
        exact hK _ _ _ hI (Step.refl hI) rfl
      · intro vs g w2 hI hF hR K hK
        simp only [Facts, fill, Act.put, z1, z2, z3, z4, z5, Nat.reduceAdd] at hF hR hK ⊢
        obtain ⟨r33, -⟩ := hR
        generalize vs 33 = x33 at *
        subst r33
        go_simp
        exact hK _ _ _ hI (Step.refl hI) rfl
      · intro vs g w2 hI hF hR K hK
        simp only [Facts, fill, Act.put, z1, z2, z3, z4, z5, Nat.reduceAdd] at hF hR hK ⊢
        obtain ⟨r34, -⟩ := hR
        generalize vs 34 = x34 at *
        subst r34
        have k0 := hI.cell CR11_R1_0.out (fun _ h => by cases h)
        have k1 := hI.cell CR11_R1_1.out (fun _ h => by cases h)
        go_simp
        exact hK _ _ _ hI (Step.refl hI) rfl
      · intro vs g w2 hI hF hR K hK
        simp only [Facts, fill, Act.put, z1, z2, z3, z4, z5, Nat.reduceAdd] at hF hR hK ⊢
        obtain ⟨r34, -⟩ := hR
        generalize vs 34 = x34 at *
        subst r34
        have k0 := hI.cell CR12_R1_0.out (fun _ h => by cases h)
        have k1 := hI.cell CR12_R1_1.out (fun _ h => by cases h)
        go_simp
        exact hK _ _ _ hI (Step.refl hI) rfl
      · intro vs g w2 hI hF hR K hK
        simp only [Facts, fill, Act.put, z1, z2, z3, z4, z5, Nat.reduceAdd] at hF hR hK ⊢
        obtain ⟨r34, -⟩ := hR
        generalize vs 34 = x34 at *
        subst r34
        have k0 := hI.cell CR13_R1_0.out (fun _ h => by cases h)
        have k1 := hI.cell CR13_R1_1.out (fun _ h => by cases h)
        go_simp
        exact hK _ _ _ hI (Step.refl hI) rfl
      · intro vs g w2 hI hF hR K hK
        simp only [Facts, fill, Act.put, z1, z2, z3, z4, z5, Nat.reduceAdd] at hF hR hK ⊢
        obtain ⟨r34, r35, r36, r37, -⟩ := hR
        generalize vs 34 = x34, vs 35 = x35, vs 36 = x36, vs 37 = x37 at *
        subst r34 r35 r36 r37
        go_simp
        refine (gOrientCollinear hI hw (by first | assumption | (unfold S; decide)) (by first | assumption | (unfold S; decide)) (by first | assumption | (unfold S; decide)) (by first | assumption | (unfold S; decide)) (by first | assumption | (unfold S; decide)) (by first | assumption | (unfold S; decide))).mono ?_
        rintro e w3 ⟨v3, rfl, hv, hb⟩
        exact hK _ _ _ (hI.call hb) (Step.call hI hb) hv
      · intro vs g w2 hI hF hR K hK
        simp only [Facts, fill, Act.put, z1, z2, z3, z4, z5, Nat.reduceAdd] at hF hR hK ⊢
        obtain ⟨r34, r38, -⟩ := hR
        generalize vs 34 = x34, vs 38 = x38 at *
        subst r34 r38
        have hz : ((mk (decide (det 0 0 1 0 0 1 = 0))) == 0) = true := (by decide +kernel)
        go_simp
        exact hK _ _ _ hI (Step.refl hI) rfl
      · intro vs g w2 hI hF hR K hK
        simp only [Facts, fill, Act.put, z1, z2, z3, z4, z5, Nat.reduceAdd] at hF hR hK ⊢
        obtain ⟨r34, r39, -⟩ := hR
        generalize vs 34 = x34, vs 39 = x39 at *
        subst r34 r39
        go_simp
        exact hK _ _ _ hI (Step.refl hI) rfl
      · intro vs g w2 hI hF hR K hK
        simp only [Facts, fill, Act.put, z1, z2, z3, z4, z5, Nat.reduceAdd] at hF hR hK ⊢
        obtain ⟨r40, -⟩ := hR
        generalize vs 40 = x40 at *
        subst r40
        go_simp
        exact hK _ _ _ hI (Step.refl hI) rfl
    case fin =>
      intro vs g wR2 hI hR
      have r41 := hR 41 (by decide)
      simp only [fill, Act.put, z1, z2, z3, z4, z5] at r41 ⊢
      clear hR
      generalize vs 41 = x41 at *
      have CR11_R2_0 := Lib.hid (hI.cell CR11_R1_0.out (fun _ h => by cases h))
      have CR11_R2_1 := Lib.hid (hI.cell CR11_R1_1.out (fun _ h => by cases h))
      have CR12_R2_0 := Lib.hid (hI.cell CR12_R1_0.out (fun _ h => by cases h))
      have CR12_R2_1 := Lib.hid (hI.cell CR12_R1_1.out (fun _ h => by cases h))
      have CR13_R2_0 := Lib.hid (hI.cell CR13_R1_0.out (fun _ h => by cases h))
      have CR13_R2_1 := Lib.hid (hI.cell CR13_R1_1.out (fun _ h => by cases h))
      subst r41
      have hBR2 := hI.below
      have HCR2 := hI.next HCR1
      clear hI
      go_wp2
      go_ret
      exact ⟨rfl, hBR2⟩
end Go.Proofs.YthnhabfnjjbfaaaDoor
