/-
  The examples of layer 7. (Written by law5.py.)
-/
import Derived.Test.YtckeognbfdladaaDoorCircleC
namespace Go.Proofs.YtckeognbfdladaaDoor
open Go.RowKit
set_option maxRecDepth 100000
set_option linter.unusedVariables false
set_option linter.unusedSimpArgs false

set_option maxHeartbeats 4000000 in
theorem alive7_any (w : World) (hw : Wts w) :
    Calls Tryd.prog 10 #[] w fun e w' => e = .returned (.bool true) ∧ Below w.heap.size w w' := by
  obtain ⟨W, hW⟩ : ∃ W, W = w := ⟨_, rfl⟩
  have hb0 : Below w.heap.size w W := by rw [hW]; exact Below.refl _ _
  have HW := Lib.hid hW
  go_enter Tryd.func10, Tryd.ntmps10
  go_upto_region 1 with (fail)
  rw [← HW.out]
  refine box_plan0 (c := ⟨w, W, (fun _ => none)⟩) (Ctx.ok_none hb0) [[], [], [], [], [], [], [(1, 3), (4, 0)], [(2, 4), (5, 1)], [(3, 5), (6, 2)]] [(4, 0), (5, 1), (6, 2), (1, 3), (2, 4), (3, 5)] [
      (fun v _ _ => v = .agg #[.int .i64 0, .int .i64 0]),
      (fun v _ _ => v = .agg #[.int .i64 2, .int .i64 0]),
      (fun v _ _ => v = .agg #[.int .i64 0, .int .i64 2]),
      PtrR 3 2,
      PtrR 4 2,
      PtrR 5 2,
      (fun _ g w => BoxR 3 (fun v _ _ => v = .agg #[.int .i64 0, .int .i64 0]) g w),
      (fun _ g w => BoxR 4 (fun v _ _ => v = .agg #[.int .i64 2, .int .i64 0]) g w),
      (fun _ g w => BoxR 5 (fun v _ _ => v = .agg #[.int .i64 0, .int .i64 2]) g w)
    ] (fun i => match i with | 3 => some 6 | 4 => some 7 | 5 => some 8 | _ => none) (by kernel_rfl) (by kernel_rfl) ⟨stab_eq, stab_eq, stab_eq, stab_ptr, stab_ptr, stab_ptr, stab_box (firm_eq _) rfl, stab_box (firm_eq _) rfl, stab_box (firm_eq _) rfl, trivial⟩ ?steps ?fin
  case steps =>
    refine ⟨?_, ?_, ?_, ?_, ?_, ?_, ?_, ?_, ?_, trivial⟩
    · intro vs g w2 hI hF hR K hK
      simp only [Facts, fill, Act.put, z1, z2, z3, z4, z5, Nat.reduceAdd] at hF hR hK ⊢
      go_simp
      exact hK _ _ _ hI (Step.refl hI) rfl
    · intro vs g w2 hI hF hR K hK
      simp only [Facts, fill, Act.put, z1, z2, z3, z4, z5, Nat.reduceAdd] at hF hR hK ⊢
      go_simp
      exact hK _ _ _ hI (Step.refl hI) rfl
    · intro vs g w2 hI hF hR K hK
      simp only [Facts, fill, Act.put, z1, z2, z3, z4, z5, Nat.reduceAdd] at hF hR hK ⊢
      go_simp
      exact hK _ _ _ hI (Step.refl hI) rfl
    · intro vs g w2 hI hF hR K hK
      simp only [Facts, fill, Act.put, z1, z2, z3, z4, z5, Nat.reduceAdd] at hF hR hK ⊢
      go_simp
      exact hK _ _ _ (hI.alloc _ (hF (by decide)) _) (Step.alloc hI (hF (by decide)) _) ⟨_, rfl, more_at _ _ _, box2' _ _ _ _⟩
    · intro vs g w2 hI hF hR K hK
      simp only [Facts, fill, Act.put, z1, z2, z3, z4, z5, Nat.reduceAdd] at hF hR hK ⊢
      go_simp
      exact hK _ _ _ (hI.alloc _ (hF (by decide)) _) (Step.alloc hI (hF (by decide)) _) ⟨_, rfl, more_at _ _ _, box2' _ _ _ _⟩
    · intro vs g w2 hI hF hR K hK
      simp only [Facts, fill, Act.put, z1, z2, z3, z4, z5, Nat.reduceAdd] at hF hR hK ⊢
      go_simp
      exact hK _ _ _ (hI.alloc _ (hF (by decide)) _) (Step.alloc hI (hF (by decide)) _) ⟨_, rfl, more_at _ _ _, box2' _ _ _ _⟩
    · intro vs g w2 hI hF hR K hK
      simp only [Facts, fill, Act.put, z1, z2, z3, z4, z5, Nat.reduceAdd] at hF hR hK ⊢
      obtain ⟨r3, r0, -⟩ := hR
      generalize vs 3 = x3, vs 0 = x0 at *
      subst r0
      obtain ⟨k, rfl, hk, hbx⟩ := r3
      obtain ⟨⟨u0, k0⟩, f0⟩ := hbx 0 (by decide)
      obtain ⟨⟨u1, k1⟩, f1⟩ := hbx 1 (by decide)
      go_simp
      have ht := (((Touch.refl w2 k).set 0 (.int .i64 0)).set 1 (.int .i64 0))
      exact hK undef _ _ (hI.store (by decide) hk ht) (Step.store hI rfl hk ht) ⟨k, .agg #[.int .i64 0, .int .i64 0], hk, by rw [ht.size]; exact hI.lt _ _ hk, cells2 k0 k1 (.int .i64 0) (.int .i64 0), rfl⟩
    · intro vs g w2 hI hF hR K hK
      simp only [Facts, fill, Act.put, z1, z2, z3, z4, z5, Nat.reduceAdd] at hF hR hK ⊢
      obtain ⟨r4, r1, -⟩ := hR
      generalize vs 4 = x4, vs 1 = x1 at *
      subst r1
      obtain ⟨k, rfl, hk, hbx⟩ := r4
      obtain ⟨⟨u0, k0⟩, f0⟩ := hbx 0 (by decide)
      obtain ⟨⟨u1, k1⟩, f1⟩ := hbx 1 (by decide)
      go_simp
      have ht := (((Touch.refl w2 k).set 0 (.int .i64 2)).set 1 (.int .i64 0))
      exact hK undef _ _ (hI.store (by decide) hk ht) (Step.store hI rfl hk ht) ⟨k, .agg #[.int .i64 2, .int .i64 0], hk, by rw [ht.size]; exact hI.lt _ _ hk, cells2 k0 k1 (.int .i64 2) (.int .i64 0), rfl⟩
    · intro vs g w2 hI hF hR K hK
      simp only [Facts, fill, Act.put, z1, z2, z3, z4, z5, Nat.reduceAdd] at hF hR hK ⊢
      obtain ⟨r5, r2, -⟩ := hR
      generalize vs 5 = x5, vs 2 = x2 at *
      subst r2
      obtain ⟨k, rfl, hk, hbx⟩ := r5
      obtain ⟨⟨u0, k0⟩, f0⟩ := hbx 0 (by decide)
      obtain ⟨⟨u1, k1⟩, f1⟩ := hbx 1 (by decide)
      go_simp
      have ht := (((Touch.refl w2 k).set 0 (.int .i64 0)).set 1 (.int .i64 2))
      exact hK undef _ _ (hI.store (by decide) hk ht) (Step.store hI rfl hk ht) ⟨k, .agg #[.int .i64 0, .int .i64 2], hk, by rw [ht.size]; exact hI.lt _ _ hk, cells2 k0 k1 (.int .i64 0) (.int .i64 2), rfl⟩
  case fin =>
    intro vs g wR1 hI hR
    have r3 := hR 3 (by decide)
    have r4 := hR 4 (by decide)
    have r5 := hR 5 (by decide)
    have r6 := hR 6 (by decide)
    have r7 := hR 7 (by decide)
    have r8 := hR 8 (by decide)
    simp only [fill, Act.put, z1, z2, z3, z4, z5] at r3 r4 r5 r6 r7 r8 ⊢
    clear hR
    generalize vs 3 = x3 at *
    generalize vs 4 = x4 at *
    generalize vs 5 = x5 at *
    generalize vs 6 = x6 at *
    generalize vs 7 = x7 at *
    generalize vs 8 = x8 at *
    obtain ⟨pR11, rfl, hkR11, -⟩ := r3
    obtain ⟨qR11, uR11, hqR11, -, hcR11, hrR11⟩ := r6
    rw [hkR11] at hqR11
    injection hqR11 with hqR11
    subst hqR11
    subst hrR11
    have CR11_R1_0 := Lib.hid (hcR11 0 _ rfl)
    have CR11_R1_1 := Lib.hid (hcR11 1 _ rfl)
    clear hcR11 hkR11
    obtain ⟨pR12, rfl, hkR12, -⟩ := r4
    obtain ⟨qR12, uR12, hqR12, -, hcR12, hrR12⟩ := r7
    rw [hkR12] at hqR12
    injection hqR12 with hqR12
    subst hqR12
    subst hrR12
    have CR12_R1_0 := Lib.hid (hcR12 0 _ rfl)
    have CR12_R1_1 := Lib.hid (hcR12 1 _ rfl)
    clear hcR12 hkR12
    obtain ⟨pR13, rfl, hkR13, -⟩ := r5
    obtain ⟨qR13, uR13, hqR13, -, hcR13, hrR13⟩ := r8
    rw [hkR13] at hqR13
    injection hqR13 with hqR13
    subst hqR13
    subst hrR13
    have CR13_R1_0 := Lib.hid (hcR13 0 _ rfl)
    have CR13_R1_1 := Lib.hid (hcR13 1 _ rfl)
    clear hcR13 hkR13
    have hBR1 := hI.below
    have HCR1 := hI.next (Ctx.ok_none hb0)
    clear hI
    go_upto_region 2 with (fail)
    refine box_plan0 (c := ⟨w, wR1, (fun _ => none)⟩) HCR1 [[], [], [], [], [(7, 0), (8, 1), (9, 2), (10, 3)], [(11, 4)], [(12, 5)], [(13, 6)], [(13, 6)], [(13, 6)], [(13, 6)], [(13, 6), (14, 7), (15, 8), (16, 9), (17, 10)], [(13, 6), (18, 11)], [(13, 6), (19, 12)], [(20, 13)], [(21, 14)], [(21, 14)], [(21, 14)], [(21, 14)], [(21, 14), (22, 15), (23, 16), (24, 17), (25, 18)], [(21, 14), (26, 19)], [(21, 14), (27, 20)], [(28, 21)], [(29, 22)], [(29, 22)], [(29, 22)], [(29, 22)], [(29, 22), (30, 23), (31, 24), (32, 25), (33, 26)], [(29, 22), (34, 27)], [(29, 22), (35, 28)], [(29, 22), (36, 29)], [(37, 30)], [(38, 31)], [(38, 31)], [(38, 31)], [(38, 31)], [(38, 31), (39, 32), (40, 33), (41, 34), (42, 35)], [(38, 31), (43, 36)], [(38, 31), (44, 37)], [(45, 38)]] [(7, 0), (8, 1), (9, 2), (10, 3), (11, 4), (12, 5), (13, 6), (14, 7), (15, 8), (16, 9), (17, 10), (18, 11), (19, 12), (20, 13), (21, 14), (22, 15), (23, 16), (24, 17), (25, 18), (26, 19), (27, 20), (28, 21), (29, 22), (30, 23), (31, 24), (32, 25), (33, 26), (34, 27), (35, 28), (36, 29), (37, 30), (38, 31), (39, 32), (40, 33), (41, 34), (42, 35), (43, 36), (44, 37), (45, 38), (0, 39)] [
        (fun v _ _ => v = .agg #[.int .i64 0, .int .i64 0]),
        (fun v _ _ => v = .agg #[.int .i64 2, .int .i64 0]),
        (fun v _ _ => v = .agg #[.int .i64 0, .int .i64 2]),
        (fun v _ _ => v = .agg #[.int .i64 1, .int .i64 1]),
        SignR ((lc 0 0 2 0 0 2 1 1) * (det 0 0 2 0 0 2)),
        (fun v _ _ => v = .bool true),
        (fun v _ _ => v = .bool true),
        (fun v _ _ => v = .agg #[.int .i64 0, .int .i64 0]),
        (fun v _ _ => v = .agg #[.int .i64 2, .int .i64 0]),
        (fun v _ _ => v = .agg #[.int .i64 0, .int .i64 2]),
        (fun v _ _ => v = .agg #[.int .i64 2, .int .i64 2]),
        SignR ((lc 0 0 2 0 0 2 2 2) * (det 0 0 2 0 0 2)),
        (fun v _ _ => v = .bool true),
        (fun v _ _ => v = .bool true),
        (fun v _ _ => v = .bool true),
        (fun v _ _ => v = .agg #[.int .i64 0, .int .i64 0]),
        (fun v _ _ => v = .agg #[.int .i64 2, .int .i64 0]),
        (fun v _ _ => v = .agg #[.int .i64 0, .int .i64 2]),
        (fun v _ _ => v = .agg #[.int .i64 3, .int .i64 0]),
        SignR ((lc 0 0 2 0 0 2 3 0) * (det 0 0 2 0 0 2)),
        (fun v _ _ => v = .bool true),
        (fun v _ _ => v = .bool true),
        (fun v _ _ => v = .bool true),
        (fun v _ _ => v = .agg #[.int .i64 0, .int .i64 0]),
        (fun v _ _ => v = .agg #[.int .i64 2, .int .i64 0]),
        (fun v _ _ => v = .agg #[.int .i64 0, .int .i64 2]),
        (fun v _ _ => v = .agg #[.int .i64 0, .int .i64 0]),
        LimR 5 (lc 0 0 2 0 0 2 0 0),
        (fun v _ _ => v = .int .i64 5),
        (fun v _ _ => v = .bool true),
        (fun v _ _ => v = .bool true),
        (fun v _ _ => v = .bool true),
        (fun v _ _ => v = .agg #[.int .i64 0, .int .i64 0]),
        (fun v _ _ => v = .agg #[.int .i64 2, .int .i64 0]),
        (fun v _ _ => v = .agg #[.int .i64 0, .int .i64 2]),
        (fun v _ _ => v = .agg #[.int .i64 1, .int .i64 1]),
        SignR (lc 0 0 2 0 0 2 1 1),
        (fun v _ _ => v = .bool true),
        (fun v _ _ => v = .bool true),
        (fun v _ _ => v = .bool true)
      ] (fun _ => none) (by kernel_rfl) (by kernel_rfl) ⟨stab_eq, stab_eq, stab_eq, stab_eq, stab_firm (signR_firm _), stab_eq, stab_eq, stab_eq, stab_eq, stab_eq, stab_eq, stab_firm (signR_firm _), stab_eq, stab_eq, stab_eq, stab_eq, stab_eq, stab_eq, stab_eq, stab_firm (signR_firm _), stab_eq, stab_eq, stab_eq, stab_eq, stab_eq, stab_eq, stab_eq, stab_firm (limR_firm _ _), stab_eq, stab_eq, stab_eq, stab_eq, stab_eq, stab_eq, stab_eq, stab_eq, stab_firm (signR_firm _), stab_eq, stab_eq, stab_eq, trivial⟩ ?steps ?fin
    case steps =>
      refine ⟨?_, ?_, ?_, ?_, ?_, ?_, ?_, ?_, ?_, ?_, ?_, ?_, ?_, ?_, ?_, ?_, ?_, ?_, ?_, ?_, ?_, ?_, ?_, ?_, ?_, ?_, ?_, ?_, ?_, ?_, ?_, ?_, ?_, ?_, ?_, ?_, ?_, ?_, ?_, ?_, trivial⟩
      · intro vs g w2 hI hF hR K hK
        simp only [Facts, fill, Act.put, z1, z2, z3, z4, z5, Nat.reduceAdd] at hF hR hK ⊢
        have k0 := hI.cell CR11_R1_0.out (fun _ h => by cases h)
        have k1 := hI.cell CR11_R1_1.out (fun _ h => by cases h)
        go_simp
        exact hK _ _ _ hI (Step.refl hI) rfl
      · intro vs g w2 hI hF hR K hK
        simp only [Facts, fill, Act.put, z1, z2, z3, z4, z5, Nat.reduceAdd] at hF hR hK ⊢
        have k0 := hI.cell CR12_R1_0.out (fun _ h => by cases h)
        have k1 := hI.cell CR12_R1_1.out (fun _ h => by cases h)
        go_simp
        exact hK _ _ _ hI (Step.refl hI) rfl
      · intro vs g w2 hI hF hR K hK
        simp only [Facts, fill, Act.put, z1, z2, z3, z4, z5, Nat.reduceAdd] at hF hR hK ⊢
        have k0 := hI.cell CR13_R1_0.out (fun _ h => by cases h)
        have k1 := hI.cell CR13_R1_1.out (fun _ h => by cases h)
        go_simp
        exact hK _ _ _ hI (Step.refl hI) rfl
      · intro vs g w2 hI hF hR K hK
        simp only [Facts, fill, Act.put, z1, z2, z3, z4, z5, Nat.reduceAdd] at hF hR hK ⊢
        go_simp
        exact hK _ _ _ hI (Step.refl hI) rfl
      · intro vs g w2 hI hF hR K hK
        simp only [Facts, fill, Act.put, z1, z2, z3, z4, z5, Nat.reduceAdd] at hF hR hK ⊢
        obtain ⟨r0, r1, r2, r3, -⟩ := hR
        generalize vs 0 = x0, vs 1 = x1, vs 2 = x2, vs 3 = x3 at *
        subst r0 r1 r2 r3
        go_simp
        refine (gCircleSide hI hw (by first | assumption | (unfold S; decide)) (by first | assumption | (unfold S; decide)) (by first | assumption | (unfold S; decide)) (by first | assumption | (unfold S; decide)) (by first | assumption | (unfold S; decide)) (by first | assumption | (unfold S; decide)) (by first | assumption | (unfold S; decide)) (by first | assumption | (unfold S; decide))).mono ?_
        rintro e w3 ⟨v3, rfl, hv, hb⟩
        exact hK _ _ _ (hI.call hb) (Step.call hI hb) hv
      · intro vs g w2 hI hF hR K hK
        simp only [Facts, fill, Act.put, z1, z2, z3, z4, z5, Nat.reduceAdd] at hF hR hK ⊢
        obtain ⟨r4, -⟩ := hR
        generalize vs 4 = x4 at *
        obtain ⟨s5, rfl, hs5⟩ := r4
        have hz := sign_is (x := (lc 0 0 2 0 0 2 1 1) * (det 0 0 2 0 0 2)) (k := 1) ⟨s5, rfl, hs5⟩ (by decide +kernel)
        clear hs5
        go_simp
        exact hK _ _ _ hI (Step.refl hI) rfl
      · intro vs g w2 hI hF hR K hK
        simp only [Facts, fill, Act.put, z1, z2, z3, z4, z5, Nat.reduceAdd] at hF hR hK ⊢
        obtain ⟨r5, -⟩ := hR
        generalize vs 5 = x5 at *
        subst r5
        go_simp
        exact hK _ _ _ hI (Step.refl hI) rfl
      · intro vs g w2 hI hF hR K hK
        simp only [Facts, fill, Act.put, z1, z2, z3, z4, z5, Nat.reduceAdd] at hF hR hK ⊢
        obtain ⟨r6, -⟩ := hR
        generalize vs 6 = x6 at *
        subst r6
        have k0 := hI.cell CR11_R1_0.out (fun _ h => by cases h)
        have k1 := hI.cell CR11_R1_1.out (fun _ h => by cases h)
        go_simp
        exact hK _ _ _ hI (Step.refl hI) rfl
      · intro vs g w2 hI hF hR K hK
        simp only [Facts, fill, Act.put, z1, z2, z3, z4, z5, Nat.reduceAdd] at hF hR hK ⊢
        obtain ⟨r6, -⟩ := hR
        generalize vs 6 = x6 at *
        subst r6
        have k0 := hI.cell CR12_R1_0.out (fun _ h => by cases h)
        have k1 := hI.cell CR12_R1_1.out (fun _ h => by cases h)
        go_simp
        exact hK _ _ _ hI (Step.refl hI) rfl
      · intro vs g w2 hI hF hR K hK
        simp only [Facts, fill, Act.put, z1, z2, z3, z4, z5, Nat.reduceAdd] at hF hR hK ⊢
        obtain ⟨r6, -⟩ := hR
        generalize vs 6 = x6 at *
        subst r6
        have k0 := hI.cell CR13_R1_0.out (fun _ h => by cases h)
        have k1 := hI.cell CR13_R1_1.out (fun _ h => by cases h)
        go_simp
        exact hK _ _ _ hI (Step.refl hI) rfl
      · intro vs g w2 hI hF hR K hK
        simp only [Facts, fill, Act.put, z1, z2, z3, z4, z5, Nat.reduceAdd] at hF hR hK ⊢
        obtain ⟨r6, -⟩ := hR
        generalize vs 6 = x6 at *
        subst r6
        go_simp
        exact hK _ _ _ hI (Step.refl hI) rfl
      · intro vs g w2 hI hF hR K hK
        simp only [Facts, fill, Act.put, z1, z2, z3, z4, z5, Nat.reduceAdd] at hF hR hK ⊢
        obtain ⟨r6, r7, r8, r9, r10, -⟩ := hR
        generalize vs 6 = x6, vs 7 = x7, vs 8 = x8, vs 9 = x9, vs 10 = x10 at *
        subst r6 r7 r8 r9 r10
        go_simp
        refine (gCircleSide hI hw (by first | assumption | (unfold S; decide)) (by first | assumption | (unfold S; decide)) (by first | assumption | (unfold S; decide)) (by first | assumption | (unfold S; decide)) (by first | assumption | (unfold S; decide)) (by first | assumption | (unfold S; decide)) (by first | assumption | (unfold S; decide)) (by first | assumption | (unfold S; decide))).mono ?_
        rintro e w3 ⟨v3, rfl, hv, hb⟩
        exact hK _ _ _ (hI.call hb) (Step.call hI hb) hv
      · intro vs g w2 hI hF hR K hK
        simp only [Facts, fill, Act.put, z1, z2, z3, z4, z5, Nat.reduceAdd] at hF hR hK ⊢
        obtain ⟨r6, r11, -⟩ := hR
        generalize vs 6 = x6, vs 11 = x11 at *
        subst r6
        obtain ⟨s12, rfl, hs12⟩ := r11
        have hz := sign_is (x := (lc 0 0 2 0 0 2 2 2) * (det 0 0 2 0 0 2)) (k := 0) ⟨s12, rfl, hs12⟩ (by decide +kernel)
        clear hs12
        go_simp
        exact hK _ _ _ hI (Step.refl hI) rfl
      · intro vs g w2 hI hF hR K hK
        simp only [Facts, fill, Act.put, z1, z2, z3, z4, z5, Nat.reduceAdd] at hF hR hK ⊢
        obtain ⟨r6, r12, -⟩ := hR
        generalize vs 6 = x6, vs 12 = x12 at *
        subst r6 r12
        go_simp
        exact hK _ _ _ hI (Step.refl hI) rfl
      · intro vs g w2 hI hF hR K hK
        simp only [Facts, fill, Act.put, z1, z2, z3, z4, z5, Nat.reduceAdd] at hF hR hK ⊢
        obtain ⟨r13, -⟩ := hR
        generalize vs 13 = x13 at *
        subst r13
        go_simp
        exact hK _ _ _ hI (Step.refl hI) rfl
      · intro vs g w2 hI hF hR K hK
        simp only [Facts, fill, Act.put, z1, z2, z3, z4, z5, Nat.reduceAdd] at hF hR hK ⊢
        obtain ⟨r14, -⟩ := hR
        generalize vs 14 = x14 at *
        subst r14
        have k0 := hI.cell CR11_R1_0.out (fun _ h => by cases h)
        have k1 := hI.cell CR11_R1_1.out (fun _ h => by cases h)
        go_simp
        exact hK _ _ _ hI (Step.refl hI) rfl
      · intro vs g w2 hI hF hR K hK
        simp only [Facts, fill, Act.put, z1, z2, z3, z4, z5, Nat.reduceAdd] at hF hR hK ⊢
        obtain ⟨r14, -⟩ := hR
        generalize vs 14 = x14 at *
        subst r14
        have k0 := hI.cell CR12_R1_0.out (fun _ h => by cases h)
        have k1 := hI.cell CR12_R1_1.out (fun _ h => by cases h)
        go_simp
        exact hK _ _ _ hI (Step.refl hI) rfl
      · intro vs g w2 hI hF hR K hK
        simp only [Facts, fill, Act.put, z1, z2, z3, z4, z5, Nat.reduceAdd] at hF hR hK ⊢
        obtain ⟨r14, -⟩ := hR
        generalize vs 14 = x14 at *
        subst r14
        have k0 := hI.cell CR13_R1_0.out (fun _ h => by cases h)
        have k1 := hI.cell CR13_R1_1.out (fun _ h => by cases h)
        go_simp
        exact hK _ _ _ hI (Step.refl hI) rfl
      · intro vs g w2 hI hF hR K hK
        simp only [Facts, fill, Act.put, z1, z2, z3, z4, z5, Nat.reduceAdd] at hF hR hK ⊢
        obtain ⟨r14, -⟩ := hR
        generalize vs 14 = x14 at *
        subst r14
        go_simp
        exact hK _ _ _ hI (Step.refl hI) rfl
      · intro vs g w2 hI hF hR K hK
        simp only [Facts, fill, Act.put, z1, z2, z3, z4, z5, Nat.reduceAdd] at hF hR hK ⊢
        obtain ⟨r14, r15, r16, r17, r18, -⟩ := hR
        generalize vs 14 = x14, vs 15 = x15, vs 16 = x16, vs 17 = x17, vs 18 = x18 at *
        subst r14 r15 r16 r17 r18
        go_simp
        refine (gCircleSide hI hw (by first | assumption | (unfold S; decide)) (by first | assumption | (unfold S; decide)) (by first | assumption | (unfold S; decide)) (by first | assumption | (unfold S; decide)) (by first | assumption | (unfold S; decide)) (by first | assumption | (unfold S; decide)) (by first | assumption | (unfold S; decide)) (by first | assumption | (unfold S; decide))).mono ?_
        rintro e w3 ⟨v3, rfl, hv, hb⟩
        exact hK _ _ _ (hI.call hb) (Step.call hI hb) hv
      · intro vs g w2 hI hF hR K hK
        simp only [Facts, fill, Act.put, z1, z2, z3, z4, z5, Nat.reduceAdd] at hF hR hK ⊢
        obtain ⟨r14, r19, -⟩ := hR
        generalize vs 14 = x14, vs 19 = x19 at *
        subst r14
        obtain ⟨s20, rfl, hs20⟩ := r19
        have hz := sign_is (x := (lc 0 0 2 0 0 2 3 0) * (det 0 0 2 0 0 2)) (k := (-1)) ⟨s20, rfl, hs20⟩ (by decide +kernel)
        clear hs20
        go_simp
        exact hK _ _ _ hI (Step.refl hI) rfl
      · intro vs g w2 hI hF hR K hK
        simp only [Facts, fill, Act.put, z1, z2, z3, z4, z5, Nat.reduceAdd] at hF hR hK ⊢
        obtain ⟨r14, r20, -⟩ := hR
        generalize vs 14 = x14, vs 20 = x20 at *
        subst r14 r20
        go_simp
        exact hK _ _ _ hI (Step.refl hI) rfl
      · intro vs g w2 hI hF hR K hK
        simp only [Facts, fill, Act.put, z1, z2, z3, z4, z5, Nat.reduceAdd] at hF hR hK ⊢
        obtain ⟨r21, -⟩ := hR
        generalize vs 21 = x21 at *
        subst r21
        go_simp
        exact hK _ _ _ hI (Step.refl hI) rfl
      · intro vs g w2 hI hF hR K hK
        simp only [Facts, fill, Act.put, z1, z2, z3, z4, z5, Nat.reduceAdd] at hF hR hK ⊢
        obtain ⟨r22, -⟩ := hR
        generalize vs 22 = x22 at *
        subst r22
        have k0 := hI.cell CR11_R1_0.out (fun _ h => by cases h)
        have k1 := hI.cell CR11_R1_1.out (fun _ h => by cases h)
        go_simp
        exact hK _ _ _ hI (Step.refl hI) rfl
      · intro vs g w2 hI hF hR K hK
        simp only [Facts, fill, Act.put, z1, z2, z3, z4, z5, Nat.reduceAdd] at hF hR hK ⊢
        obtain ⟨r22, -⟩ := hR
        generalize vs 22 = x22 at *
        subst r22
        have k0 := hI.cell CR12_R1_0.out (fun _ h => by cases h)
        have k1 := hI.cell CR12_R1_1.out (fun _ h => by cases h)
        go_simp
        exact hK _ _ _ hI (Step.refl hI) rfl
      · intro vs g w2 hI hF hR K hK
        simp only [Facts, fill, Act.put, z1, z2, z3, z4, z5, Nat.reduceAdd] at hF hR hK ⊢
        obtain ⟨r22, -⟩ := hR
        generalize vs 22 = x22 at *
        subst r22
        have k0 := hI.cell CR13_R1_0.out (fun _ h => by cases h)
        have k1 := hI.cell CR13_R1_1.out (fun _ h => by cases h)
        go_simp
        exact hK _ _ _ hI (Step.refl hI) rfl
      · intro vs g w2 hI hF hR K hK
        simp only [Facts, fill, Act.put, z1, z2, z3, z4, z5, Nat.reduceAdd] at hF hR hK ⊢
        obtain ⟨r22, -⟩ := hR
        generalize vs 22 = x22 at *
        subst r22
        have k0 := hI.cell CR11_R1_0.out (fun _ h => by cases h)
        have k1 := hI.cell CR11_R1_1.out (fun _ h => by cases h)
        go_simp
        exact hK _ _ _ hI (Step.refl hI) rfl
      · intro vs g w2 hI hF hR K hK
        simp only [Facts, fill, Act.put, z1, z2, z3, z4, z5, Nat.reduceAdd] at hF hR hK ⊢
        obtain ⟨r22, r23, r24, r25, r26, -⟩ := hR
        generalize vs 22 = x22, vs 23 = x23, vs 24 = x24, vs 25 = x25, vs 26 = x26 at *
        subst r22 r23 r24 r25 r26
        go_simp
        refine (gCircleValue hI hw (by first | assumption | (unfold S; decide)) (by first | assumption | (unfold S; decide)) (by first | assumption | (unfold S; decide)) (by first | assumption | (unfold S; decide)) (by first | assumption | (unfold S; decide)) (by first | assumption | (unfold S; decide)) (by first | assumption | (unfold S; decide)) (by first | assumption | (unfold S; decide))).mono ?_
        rintro e w3 ⟨v3, rfl, hv, hb⟩
        exact hK _ _ _ (hI.call hb) (Step.call hI hb) hv
      · intro vs g w2 hI hF hR K hK
        simp only [Facts, fill, Act.put, z1, z2, z3, z4, z5, Nat.reduceAdd] at hF hR hK ⊢
        obtain ⟨r22, r27, -⟩ := hR
        generalize vs 22 = x22, vs 27 = x27 at *
        subst r22
        obtain ⟨A, c, rfl⟩ := limR_open r27
        go_simp
        exact hK _ _ _ hI (Step.refl hI) rfl
      · intro vs g w2 hI hF hR K hK
        simp only [Facts, fill, Act.put, z1, z2, z3, z4, z5, Nat.reduceAdd] at hF hR hK ⊢
        obtain ⟨r22, r28, -⟩ := hR
        generalize vs 22 = x22, vs 28 = x28 at *
        subst r22 r28
        go_simp
        exact hK _ _ _ hI (Step.refl hI) rfl
      · intro vs g w2 hI hF hR K hK
        simp only [Facts, fill, Act.put, z1, z2, z3, z4, z5, Nat.reduceAdd] at hF hR hK ⊢
        obtain ⟨r22, r29, -⟩ := hR
        generalize vs 22 = x22, vs 29 = x29 at *
        subst r22 r29
        go_simp
        exact hK _ _ _ hI (Step.refl hI) rfl
      · intro vs g w2 hI hF hR K hK
        simp only [Facts, fill, Act.put, z1, z2, z3, z4, z5, Nat.reduceAdd] at hF hR hK ⊢
        obtain ⟨r30, -⟩ := hR
        generalize vs 30 = x30 at *
        subst r30
        go_simp
        exact hK _ _ _ hI (Step.refl hI) rfl
      · intro vs g w2 hI hF hR K hK
        simp only [Facts, fill, Act.put, z1, z2, z3, z4, z5, Nat.reduceAdd] at hF hR hK ⊢
        obtain ⟨r31, -⟩ := hR
        generalize vs 31 = x31 at *
        subst r31
        have k0 := hI.cell CR11_R1_0.out (fun _ h => by cases h)
        have k1 := hI.cell CR11_R1_1.out (fun _ h => by cases h)
        go_simp
        exact hK _ _ _ hI (Step.refl hI) rfl
      · intro vs g w2 hI hF hR K hK
        simp only [Facts, fill, Act.put, z1, z2, z3, z4, z5, Nat.reduceAdd] at hF hR hK ⊢
        obtain ⟨r31, -⟩ := hR
        generalize vs 31 = x31 at *
        subst r31
        have k0 := hI.cell CR12_R1_0.out (fun _ h => by cases h)
        have k1 := hI.cell CR12_R1_1.out (fun _ h => by cases h)
        go_simp
        exact hK _ _ _ hI (Step.refl hI) rfl
      · intro vs g w2 hI hF hR K hK
        simp only [Facts, fill, Act.put, z1, z2, z3, z4, z5, Nat.reduceAdd] at hF hR hK ⊢
        obtain ⟨r31, -⟩ := hR
        generalize vs 31 = x31 at *
        subst r31
        have k0 := hI.cell CR13_R1_0.out (fun _ h => by cases h)
        have k1 := hI.cell CR13_R1_1.out (fun _ h => by cases h)
        go_simp
        exact hK _ _ _ hI (Step.refl hI) rfl
      · intro vs g w2 hI hF hR K hK
        simp only [Facts, fill, Act.put, z1, z2, z3, z4, z5, Nat.reduceAdd] at hF hR hK ⊢
        obtain ⟨r31, -⟩ := hR
        generalize vs 31 = x31 at *
        subst r31
        go_simp
        exact hK _ _ _ hI (Step.refl hI) rfl
      · intro vs g w2 hI hF hR K hK
        simp only [Facts, fill, Act.put, z1, z2, z3, z4, z5, Nat.reduceAdd] at hF hR hK ⊢
        obtain ⟨r31, r32, r33, r34, r35, -⟩ := hR
        generalize vs 31 = x31, vs 32 = x32, vs 33 = x33, vs 34 = x34, vs 35 = x35 at *
        subst r31 r32 r33 r34 r35
        go_simp
        refine (gCircleSign hI hw (by first | assumption | (unfold S; decide)) (by first | assumption | (unfold S; decide)) (by first | assumption | (unfold S; decide)) (by first | assumption | (unfold S; decide)) (by first | assumption | (unfold S; decide)) (by first | assumption | (unfold S; decide)) (by first | assumption | (unfold S; decide)) (by first | assumption | (unfold S; decide))).mono ?_
        rintro e w3 ⟨v3, rfl, hv, hb⟩
        exact hK _ _ _ (hI.call hb) (Step.call hI hb) hv
      · intro vs g w2 hI hF hR K hK
        simp only [Facts, fill, Act.put, z1, z2, z3, z4, z5, Nat.reduceAdd] at hF hR hK ⊢
        obtain ⟨r31, r36, -⟩ := hR
        generalize vs 31 = x31, vs 36 = x36 at *
        subst r31
        obtain ⟨s37, rfl, hs37⟩ := r36
        have hz := sign_is (x := lc 0 0 2 0 0 2 1 1) (k := 1) ⟨s37, rfl, hs37⟩ (by decide +kernel)
        clear hs37
        go_simp
        exact hK _ _ _ hI (Step.refl hI) rfl
      · intro vs g w2 hI hF hR K hK
        simp only [Facts, fill, Act.put, z1, z2, z3, z4, z5, Nat.reduceAdd] at hF hR hK ⊢
        obtain ⟨r31, r37, -⟩ := hR
        generalize vs 31 = x31, vs 37 = x37 at *
        subst r31 r37
        go_simp
        exact hK _ _ _ hI (Step.refl hI) rfl
      · intro vs g w2 hI hF hR K hK
        simp only [Facts, fill, Act.put, z1, z2, z3, z4, z5, Nat.reduceAdd] at hF hR hK ⊢
        obtain ⟨r38, -⟩ := hR
        generalize vs 38 = x38 at *
        subst r38
        go_simp
        exact hK _ _ _ hI (Step.refl hI) rfl
    case fin =>
      intro vs g wR2 hI hR
      have r39 := hR 39 (by decide)
      simp only [fill, Act.put, z1, z2, z3, z4, z5] at r39 ⊢
      clear hR
      generalize vs 39 = x39 at *
      have CR11_R2_0 := Lib.hid (hI.cell CR11_R1_0.out (fun _ h => by cases h))
      have CR11_R2_1 := Lib.hid (hI.cell CR11_R1_1.out (fun _ h => by cases h))
      have CR12_R2_0 := Lib.hid (hI.cell CR12_R1_0.out (fun _ h => by cases h))
      have CR12_R2_1 := Lib.hid (hI.cell CR12_R1_1.out (fun _ h => by cases h))
      have CR13_R2_0 := Lib.hid (hI.cell CR13_R1_0.out (fun _ h => by cases h))
      have CR13_R2_1 := Lib.hid (hI.cell CR13_R1_1.out (fun _ h => by cases h))
      subst r39
      have hBR2 := hI.below
      have HCR2 := hI.next HCR1
      clear hI
      go_wp2
      go_ret
      exact ⟨rfl, hBR2⟩
theorem gAlive7 {c : Ctx} {g : Gh} {w : World} (hI : RInv c g w) (hw : Wts c.W0) : Calls Tryd.prog 10 #[] w (Gives (fun v _ _ => v = .bool true) g w) := by
  refine (alive7_any w (hw.below hI.below)).mono ?_
  rintro e w' ⟨rfl, hb⟩
  exact ⟨_, rfl, rfl, hb⟩
end Go.Proofs.YtckeognbfdladaaDoor
