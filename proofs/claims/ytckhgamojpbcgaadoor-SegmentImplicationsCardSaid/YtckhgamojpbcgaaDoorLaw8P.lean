/-
  Law SegmentImplications. (Written by law5.py.)
-/
import Derived.Test.YtckhgamojpbcgaaDoorLaw8a
namespace Go.Proofs.YtckhgamojpbcgaaDoor
open Go.RowKit
set_option maxRecDepth 100000
set_option linter.unusedVariables false
set_option linter.unusedSimpArgs false

set_option maxRecDepth 100000 in
set_option maxHeartbeats 4000000 in
theorem law_segmentImplications (xa ya xb yb xc yc xd yd : Int) (w : World) (hw : Wts w) (sxa : S xa) (sya : S ya) (sxb : S xb) (syb : S yb) (sxc : S xc) (syc : S yc) (sxd : S xd) (syd : S yd) :
    Calls Tryd.prog 8 #[.agg #[.int .i64 xa, .int .i64 ya, .int .i64 xb, .int .i64 yb, .int .i64 xc, .int .i64 yc, .int .i64 xd, .int .i64 yd]] w fun e w' => e = .returned (.bool true) ∧ Below w.heap.size w w' := by
  obtain ⟨W, hW⟩ : ∃ W, W = w.alloc (.cells #[.int .i64 xa, .int .i64 ya, .int .i64 xb, .int .i64 yb, .int .i64 xc, .int .i64 yc, .int .i64 xd, .int .i64 yd] 31) := ⟨_, rfl⟩
  have hb0 : Below w.heap.size w W := by rw [hW]; exact ((Below.refl _ _).alloc (Nat.le_refl _) _)
  have Cp_W_0 := Lib.hid (show W.cell? ⟨w.heap.size, 0, none⟩ = some (.int .i64 xa) by rw [hW]; simp [go_sem])
  have Cp_W_1 := Lib.hid (show W.cell? ⟨w.heap.size, 1, none⟩ = some (.int .i64 ya) by rw [hW]; simp [go_sem])
  have Cp_W_2 := Lib.hid (show W.cell? ⟨w.heap.size, 2, none⟩ = some (.int .i64 xb) by rw [hW]; simp [go_sem])
  have Cp_W_3 := Lib.hid (show W.cell? ⟨w.heap.size, 3, none⟩ = some (.int .i64 yb) by rw [hW]; simp [go_sem])
  have Cp_W_4 := Lib.hid (show W.cell? ⟨w.heap.size, 4, none⟩ = some (.int .i64 xc) by rw [hW]; simp [go_sem])
  have Cp_W_5 := Lib.hid (show W.cell? ⟨w.heap.size, 5, none⟩ = some (.int .i64 yc) by rw [hW]; simp [go_sem])
  have Cp_W_6 := Lib.hid (show W.cell? ⟨w.heap.size, 6, none⟩ = some (.int .i64 xd) by rw [hW]; simp [go_sem])
  have Cp_W_7 := Lib.hid (show W.cell? ⟨w.heap.size, 7, none⟩ = some (.int .i64 yd) by rw [hW]; simp [go_sem])
  have HW := Lib.hid hW
  clear hW
  go_enter Tryd.func8, Tryd.ntmps8
  go_upto_region 1 with (fail)
  rw [← HW.out]
  refine box_plan (c := ⟨w, W, (fun _ => none)⟩) (Ctx.ok_none hb0) (by kernel_rfl) [[], [(8, 0)], [], [(10, 2)], [], [(12, 4)], [], [(14, 6)], [], [], [], [], [(3, 8), (9, 1)], [(4, 9), (11, 3)], [(5, 10), (13, 5)], [(6, 11), (15, 7)]] [(8, 0), (9, 1), (10, 2), (11, 3), (12, 4), (13, 5), (14, 6), (15, 7), (3, 8), (4, 9), (5, 10), (6, 11)] [
      (fun v _ _ => v = .pointer (some ⟨w.heap.size, 0, none⟩)),
      (fun v _ _ => v = .agg #[.int .i64 xa, .int .i64 ya]),
      (fun v _ _ => v = .pointer (some ⟨w.heap.size, 2, none⟩)),
      (fun v _ _ => v = .agg #[.int .i64 xb, .int .i64 yb]),
      (fun v _ _ => v = .pointer (some ⟨w.heap.size, 4, none⟩)),
      (fun v _ _ => v = .agg #[.int .i64 xc, .int .i64 yc]),
      (fun v _ _ => v = .pointer (some ⟨w.heap.size, 6, none⟩)),
      (fun v _ _ => v = .agg #[.int .i64 xd, .int .i64 yd]),
      PtrR 8 2,
      PtrR 9 2,
      PtrR 10 2,
      PtrR 11 2,
      (fun _ g w => BoxR 8 (fun v _ _ => v = .agg #[.int .i64 xa, .int .i64 ya]) g w),
      (fun _ g w => BoxR 9 (fun v _ _ => v = .agg #[.int .i64 xb, .int .i64 yb]) g w),
      (fun _ g w => BoxR 10 (fun v _ _ => v = .agg #[.int .i64 xc, .int .i64 yc]) g w),
      (fun _ g w => BoxR 11 (fun v _ _ => v = .agg #[.int .i64 xd, .int .i64 yd]) g w)
    ] (fun i => match i with | 8 => some 12 | 9 => some 13 | 10 => some 14 | 11 => some 15 | _ => none) (by kernel_rfl) (by kernel_rfl) ⟨stab_eq, stab_eq, stab_eq, stab_eq, stab_eq, stab_eq, stab_eq, stab_eq, stab_ptr, stab_ptr, stab_ptr, stab_ptr, stab_box (firm_eq _) rfl, stab_box (firm_eq _) rfl, stab_box (firm_eq _) rfl, stab_box (firm_eq _) rfl, trivial⟩ ?steps ?fin
  case steps =>
    refine ⟨?_, ?_, ?_, ?_, ?_, ?_, ?_, ?_, ?_, ?_, ?_, ?_, ?_, ?_, ?_, ?_, trivial⟩
    · intro vs g w2 hI hF hR K hK
      simp only [Facts, fill, Act.put, z1, z2, z3, z4, z5, Nat.reduceAdd] at hF hR hK ⊢
      go_simp
      exact hK _ _ _ hI (Step.refl hI) rfl
    · intro vs g w2 hI hF hR K hK
      simp only [Facts, fill, Act.put, z1, z2, z3, z4, z5, Nat.reduceAdd] at hF hR hK ⊢
      obtain ⟨r0, -⟩ := hR
      generalize vs 0 = x0 at *
      subst r0
      have k0 := hI.cell Cp_W_0.out (fun _ h => by cases h)
      have k1 := hI.cell Cp_W_1.out (fun _ h => by cases h)
      go_simp
      exact hK _ _ _ hI (Step.refl hI) rfl
    · intro vs g w2 hI hF hR K hK
      simp only [Facts, fill, Act.put, z1, z2, z3, z4, z5, Nat.reduceAdd] at hF hR hK ⊢
      go_simp
      exact hK _ _ _ hI (Step.refl hI) rfl
    · intro vs g w2 hI hF hR K hK
      simp only [Facts, fill, Act.put, z1, z2, z3, z4, z5, Nat.reduceAdd] at hF hR hK ⊢
      obtain ⟨r2, -⟩ := hR
      generalize vs 2 = x2 at *
      subst r2
      have k0 := hI.cell Cp_W_2.out (fun _ h => by cases h)
      have k1 := hI.cell Cp_W_3.out (fun _ h => by cases h)
      go_simp
      exact hK _ _ _ hI (Step.refl hI) rfl
    · intro vs g w2 hI hF hR K hK
      simp only [Facts, fill, Act.put, z1, z2, z3, z4, z5, Nat.reduceAdd] at hF hR hK ⊢
      go_simp
      exact hK _ _ _ hI (Step.refl hI) rfl
    · intro vs g w2 hI hF hR K hK
      simp only [Facts, fill, Act.put, z1, z2, z3, z4, z5, Nat.reduceAdd] at hF hR hK ⊢
      obtain ⟨r4, -⟩ := hR
      generalize vs 4 = x4 at *
      subst r4
      have k0 := hI.cell Cp_W_4.out (fun _ h => by cases h)
      have k1 := hI.cell Cp_W_5.out (fun _ h => by cases h)
      go_simp
      exact hK _ _ _ hI (Step.refl hI) rfl
    · intro vs g w2 hI hF hR K hK
      simp only [Facts, fill, Act.put, z1, z2, z3, z4, z5, Nat.reduceAdd] at hF hR hK ⊢
      go_simp
      exact hK _ _ _ hI (Step.refl hI) rfl
    · intro vs g w2 hI hF hR K hK
      simp only [Facts, fill, Act.put, z1, z2, z3, z4, z5, Nat.reduceAdd] at hF hR hK ⊢
      obtain ⟨r6, -⟩ := hR
      generalize vs 6 = x6 at *
      subst r6
      have k0 := hI.cell Cp_W_6.out (fun _ h => by cases h)
      have k1 := hI.cell Cp_W_7.out (fun _ h => by cases h)
      go_simp
      exact hK _ _ _ hI (Step.refl hI) rfl
    · intro vs g w2 hI hF hR K hK
      simp only [Facts, fill, Act.put, z1, z2, z3, z4, z5, Nat.reduceAdd] at hF hR hK ⊢
      go_simp
      exact hK _ _ _ (hI.alloc _ (hF (by decide)) _) (Step.alloc hI (hF (by decide)) _) ⟨_, rfl, more_at _ _ _, box2' _ _ _ _⟩
    · intro vs g w2 hI hF hR K hK
      simp only [Facts, fill, Act.put, z1, z2, z3, z4, z5, Nat.reduceAdd] at hF hR hK ⊢
      go_simp
      exact hK _ _ _ (hI.alloc _ (hF (by decide)) _) (Step.alloc hI (hF (by decide)) _) ⟨_, rfl, more_at _ _ _, box2' _ _ _ _⟩
    · intro vs g w2 hI hF hR K hK
      simp only [Facts, fill, Act.put, z1, z2, z3, z4, z5, Nat.reduceAdd] at hF hR hK ⊢
      go_simp
      exact hK _ _ _ (hI.alloc _ (hF (by decide)) _) (Step.alloc hI (hF (by decide)) _) ⟨_, rfl, more_at _ _ _, box2' _ _ _ _⟩
    · intro vs g w2 hI hF hR K hK
      simp only [Facts, fill, Act.put, z1, z2, z3, z4, z5, Nat.reduceAdd] at hF hR hK ⊢
      go_simp
      exact hK _ _ _ (hI.alloc _ (hF (by decide)) _) (Step.alloc hI (hF (by decide)) _) ⟨_, rfl, more_at _ _ _, box2' _ _ _ _⟩
    · intro vs g w2 hI hF hR K hK
      simp only [Facts, fill, Act.put, z1, z2, z3, z4, z5, Nat.reduceAdd] at hF hR hK ⊢
      obtain ⟨r8, r1, -⟩ := hR
      generalize vs 8 = x8, vs 1 = x1 at *
      subst r1
      obtain ⟨k, rfl, hk, hbx⟩ := r8
      obtain ⟨⟨u0, k0⟩, f0⟩ := hbx 0 (by decide)
      obtain ⟨⟨u1, k1⟩, f1⟩ := hbx 1 (by decide)
      go_simp
      have ht := (((Touch.refl w2 k).set 0 (.int .i64 xa)).set 1 (.int .i64 ya))
      exact hK undef _ _ (hI.store (by decide) hk ht) (Step.store hI rfl hk ht) ⟨k, .agg #[.int .i64 xa, .int .i64 ya], hk, by rw [ht.size]; exact hI.lt _ _ hk, cells2 k0 k1 (.int .i64 xa) (.int .i64 ya), rfl⟩
    · intro vs g w2 hI hF hR K hK
      simp only [Facts, fill, Act.put, z1, z2, z3, z4, z5, Nat.reduceAdd] at hF hR hK ⊢
      obtain ⟨r9, r3, -⟩ := hR
      generalize vs 9 = x9, vs 3 = x3 at *
      subst r3
      obtain ⟨k, rfl, hk, hbx⟩ := r9
      obtain ⟨⟨u0, k0⟩, f0⟩ := hbx 0 (by decide)
      obtain ⟨⟨u1, k1⟩, f1⟩ := hbx 1 (by decide)
      go_simp
      have ht := (((Touch.refl w2 k).set 0 (.int .i64 xb)).set 1 (.int .i64 yb))
      exact hK undef _ _ (hI.store (by decide) hk ht) (Step.store hI rfl hk ht) ⟨k, .agg #[.int .i64 xb, .int .i64 yb], hk, by rw [ht.size]; exact hI.lt _ _ hk, cells2 k0 k1 (.int .i64 xb) (.int .i64 yb), rfl⟩
    · intro vs g w2 hI hF hR K hK
      simp only [Facts, fill, Act.put, z1, z2, z3, z4, z5, Nat.reduceAdd] at hF hR hK ⊢
      obtain ⟨r10, r5, -⟩ := hR
      generalize vs 10 = x10, vs 5 = x5 at *
      subst r5
      obtain ⟨k, rfl, hk, hbx⟩ := r10
      obtain ⟨⟨u0, k0⟩, f0⟩ := hbx 0 (by decide)
      obtain ⟨⟨u1, k1⟩, f1⟩ := hbx 1 (by decide)
      go_simp
      have ht := (((Touch.refl w2 k).set 0 (.int .i64 xc)).set 1 (.int .i64 yc))
      exact hK undef _ _ (hI.store (by decide) hk ht) (Step.store hI rfl hk ht) ⟨k, .agg #[.int .i64 xc, .int .i64 yc], hk, by rw [ht.size]; exact hI.lt _ _ hk, cells2 k0 k1 (.int .i64 xc) (.int .i64 yc), rfl⟩
    · intro vs g w2 hI hF hR K hK
      simp only [Facts, fill, Act.put, z1, z2, z3, z4, z5, Nat.reduceAdd] at hF hR hK ⊢
      obtain ⟨r11, r7, -⟩ := hR
      generalize vs 11 = x11, vs 7 = x7 at *
      subst r7
      obtain ⟨k, rfl, hk, hbx⟩ := r11
      obtain ⟨⟨u0, k0⟩, f0⟩ := hbx 0 (by decide)
      obtain ⟨⟨u1, k1⟩, f1⟩ := hbx 1 (by decide)
      go_simp
      have ht := (((Touch.refl w2 k).set 0 (.int .i64 xd)).set 1 (.int .i64 yd))
      exact hK undef _ _ (hI.store (by decide) hk ht) (Step.store hI rfl hk ht) ⟨k, .agg #[.int .i64 xd, .int .i64 yd], hk, by rw [ht.size]; exact hI.lt _ _ hk, cells2 k0 k1 (.int .i64 xd) (.int .i64 yd), rfl⟩
  case fin =>
    intro vs g wR1 hI hR
    have r8 := hR 8 (by decide)
    have r9 := hR 9 (by decide)
    have r10 := hR 10 (by decide)
    have r11 := hR 11 (by decide)
    have r12 := hR 12 (by decide)
    have r13 := hR 13 (by decide)
    have r14 := hR 14 (by decide)
    have r15 := hR 15 (by decide)
    simp only [fill, Act.put, z1, z2, z3, z4, z5] at r8 r9 r10 r11 r12 r13 r14 r15 ⊢
    clear hR
    generalize vs 8 = x8 at *
    generalize vs 9 = x9 at *
    generalize vs 10 = x10 at *
    generalize vs 11 = x11 at *
    generalize vs 12 = x12 at *
    generalize vs 13 = x13 at *
    generalize vs 14 = x14 at *
    generalize vs 15 = x15 at *
    have Cp_R1_0 := Lib.hid (hI.cell Cp_W_0.out (fun _ h => by cases h))
    have Cp_R1_1 := Lib.hid (hI.cell Cp_W_1.out (fun _ h => by cases h))
    have Cp_R1_2 := Lib.hid (hI.cell Cp_W_2.out (fun _ h => by cases h))
    have Cp_R1_3 := Lib.hid (hI.cell Cp_W_3.out (fun _ h => by cases h))
    have Cp_R1_4 := Lib.hid (hI.cell Cp_W_4.out (fun _ h => by cases h))
    have Cp_R1_5 := Lib.hid (hI.cell Cp_W_5.out (fun _ h => by cases h))
    have Cp_R1_6 := Lib.hid (hI.cell Cp_W_6.out (fun _ h => by cases h))
    have Cp_R1_7 := Lib.hid (hI.cell Cp_W_7.out (fun _ h => by cases h))
    obtain ⟨pR13, rfl, hkR13, -⟩ := r8
    obtain ⟨qR13, uR13, hqR13, -, hcR13, hrR13⟩ := r12
    rw [hkR13] at hqR13
    injection hqR13 with hqR13
    subst hqR13
    subst hrR13
    have CR13_R1_0 := Lib.hid (hcR13 0 _ rfl)
    have CR13_R1_1 := Lib.hid (hcR13 1 _ rfl)
    clear hcR13 hkR13
    obtain ⟨pR14, rfl, hkR14, -⟩ := r9
    obtain ⟨qR14, uR14, hqR14, -, hcR14, hrR14⟩ := r13
    rw [hkR14] at hqR14
    injection hqR14 with hqR14
    subst hqR14
    subst hrR14
    have CR14_R1_0 := Lib.hid (hcR14 0 _ rfl)
    have CR14_R1_1 := Lib.hid (hcR14 1 _ rfl)
    clear hcR14 hkR14
    obtain ⟨pR15, rfl, hkR15, -⟩ := r10
    obtain ⟨qR15, uR15, hqR15, -, hcR15, hrR15⟩ := r14
    rw [hkR15] at hqR15
    injection hqR15 with hqR15
    subst hqR15
    subst hrR15
    have CR15_R1_0 := Lib.hid (hcR15 0 _ rfl)
    have CR15_R1_1 := Lib.hid (hcR15 1 _ rfl)
    clear hcR15 hkR15
    obtain ⟨pR16, rfl, hkR16, -⟩ := r11
    obtain ⟨qR16, uR16, hqR16, -, hcR16, hrR16⟩ := r15
    rw [hkR16] at hqR16
    injection hqR16 with hqR16
    subst hqR16
    subst hrR16
    have CR16_R1_0 := Lib.hid (hcR16 0 _ rfl)
    have CR16_R1_1 := Lib.hid (hcR16 1 _ rfl)
    clear hcR16 hkR16
    have hBR1 := hI.below
    have HCR1 := hI.next (Ctx.ok_none hb0)
    clear hI
    go_upto_region 2 with (fail)
    refine box_plan0 (c := ⟨w, wR1, (fun _ => none)⟩) HCR1 [[], [], [], [], [(16, 0), (17, 1), (18, 2), (19, 3)], [(20, 4)]] [(16, 0), (17, 1), (18, 2), (19, 3), (20, 4), (7, 5)] [
        (fun v _ _ => v = .agg #[.int .i64 xa, .int .i64 ya]),
        (fun v _ _ => v = .agg #[.int .i64 xb, .int .i64 yb]),
        (fun v _ _ => v = .agg #[.int .i64 xc, .int .i64 yc]),
        (fun v _ _ => v = .agg #[.int .i64 xd, .int .i64 yd]),
        (fun v _ _ => v = .int .u64 (mk (meetB xa ya xb yb xc yc xd yd))),
        (fun v _ _ => v = .int .u64 (mk (meetB xa ya xb yb xc yc xd yd)))
      ] (fun _ => none) (by kernel_rfl) (by kernel_rfl) ⟨stab_eq, stab_eq, stab_eq, stab_eq, stab_eq, stab_eq, trivial⟩ ?steps ?fin
    case steps =>
      refine ⟨?_, ?_, ?_, ?_, ?_, ?_, trivial⟩
      · intro vs g w2 hI hF hR K hK
        simp only [Facts, fill, Act.put, z1, z2, z3, z4, z5, Nat.reduceAdd] at hF hR hK ⊢
        have k0 := hI.cell CR13_R1_0.out (fun _ h => by cases h)
        have k1 := hI.cell CR13_R1_1.out (fun _ h => by cases h)
        go_simp
        exact hK _ _ _ hI (Step.refl hI) rfl
      · intro vs g w2 hI hF hR K hK
        simp only [Facts, fill, Act.put, z1, z2, z3, z4, z5, Nat.reduceAdd] at hF hR hK ⊢
        have k0 := hI.cell CR14_R1_0.out (fun _ h => by cases h)
        have k1 := hI.cell CR14_R1_1.out (fun _ h => by cases h)
        go_simp
        exact hK _ _ _ hI (Step.refl hI) rfl
      · intro vs g w2 hI hF hR K hK
        simp only [Facts, fill, Act.put, z1, z2, z3, z4, z5, Nat.reduceAdd] at hF hR hK ⊢
        have k0 := hI.cell CR15_R1_0.out (fun _ h => by cases h)
        have k1 := hI.cell CR15_R1_1.out (fun _ h => by cases h)
        go_simp
        exact hK _ _ _ hI (Step.refl hI) rfl
      · intro vs g w2 hI hF hR K hK
        simp only [Facts, fill, Act.put, z1, z2, z3, z4, z5, Nat.reduceAdd] at hF hR hK ⊢
        have k0 := hI.cell CR16_R1_0.out (fun _ h => by cases h)
        have k1 := hI.cell CR16_R1_1.out (fun _ h => by cases h)
        go_simp
        exact hK _ _ _ hI (Step.refl hI) rfl
      · intro vs g w2 hI hF hR K hK
        simp only [Facts, fill, Act.put, z1, z2, z3, z4, z5, Nat.reduceAdd] at hF hR hK ⊢
        obtain ⟨r0, r1, r2, r3, -⟩ := hR
        generalize vs 0 = x0, vs 1 = x1, vs 2 = x2, vs 3 = x3 at *
        subst r0 r1 r2 r3
        go_simp
        refine (gSegMeets hI hw (by first | assumption | (unfold S; decide)) (by first | assumption | (unfold S; decide)) (by first | assumption | (unfold S; decide)) (by first | assumption | (unfold S; decide)) (by first | assumption | (unfold S; decide)) (by first | assumption | (unfold S; decide)) (by first | assumption | (unfold S; decide)) (by first | assumption | (unfold S; decide))).mono ?_
        rintro e w3 ⟨v3, rfl, hv, hb⟩
        exact hK _ _ _ (hI.call hb) (Step.call hI hb) hv
      · intro vs g w2 hI hF hR K hK
        simp only [Facts, fill, Act.put, z1, z2, z3, z4, z5, Nat.reduceAdd] at hF hR hK ⊢
        obtain ⟨r4, -⟩ := hR
        generalize vs 4 = x4 at *
        subst r4
        go_simp
        exact hK _ _ _ hI (Step.refl hI) rfl
    case fin =>
      intro vs g wR2 hI hR
      have r5 := hR 5 (by decide)
      simp only [fill, Act.put, z1, z2, z3, z4, z5] at r5 ⊢
      clear hR
      generalize vs 5 = x5 at *
      have Cp_R2_0 := Lib.hid (hI.cell Cp_R1_0.out (fun _ h => by cases h))
      have Cp_R2_1 := Lib.hid (hI.cell Cp_R1_1.out (fun _ h => by cases h))
      have Cp_R2_2 := Lib.hid (hI.cell Cp_R1_2.out (fun _ h => by cases h))
      have Cp_R2_3 := Lib.hid (hI.cell Cp_R1_3.out (fun _ h => by cases h))
      have Cp_R2_4 := Lib.hid (hI.cell Cp_R1_4.out (fun _ h => by cases h))
      have Cp_R2_5 := Lib.hid (hI.cell Cp_R1_5.out (fun _ h => by cases h))
      have Cp_R2_6 := Lib.hid (hI.cell Cp_R1_6.out (fun _ h => by cases h))
      have Cp_R2_7 := Lib.hid (hI.cell Cp_R1_7.out (fun _ h => by cases h))
      have CR13_R2_0 := Lib.hid (hI.cell CR13_R1_0.out (fun _ h => by cases h))
      have CR13_R2_1 := Lib.hid (hI.cell CR13_R1_1.out (fun _ h => by cases h))
      have CR14_R2_0 := Lib.hid (hI.cell CR14_R1_0.out (fun _ h => by cases h))
      have CR14_R2_1 := Lib.hid (hI.cell CR14_R1_1.out (fun _ h => by cases h))
      have CR15_R2_0 := Lib.hid (hI.cell CR15_R1_0.out (fun _ h => by cases h))
      have CR15_R2_1 := Lib.hid (hI.cell CR15_R1_1.out (fun _ h => by cases h))
      have CR16_R2_0 := Lib.hid (hI.cell CR16_R1_0.out (fun _ h => by cases h))
      have CR16_R2_1 := Lib.hid (hI.cell CR16_R1_1.out (fun _ h => by cases h))
      subst r5
      have hBR2 := hI.below
      have HCR2 := hI.next HCR1
      clear hI
      go_upto_region 3 with (fail)
      refine box_plan0 (c := ⟨w, wR2, (fun _ => none)⟩) HCR2 [[], [(21, 0)], [(22, 1)], [(22, 1)], [(22, 1)], [(22, 1)], [(22, 1), (23, 2), (24, 3), (25, 4), (26, 5)], [(22, 1)], [(22, 1), (27, 6), (28, 7)], [(22, 1), (29, 8)], [(22, 1), (30, 9)], [(31, 10)], [(32, 11)], [(32, 11)], [(32, 11)], [(32, 11), (33, 12), (34, 13), (35, 14)], [(32, 11)], [(32, 11), (36, 15), (37, 16)], [(32, 11), (38, 17)], [(32, 11), (39, 18)], [(40, 19)], [(41, 20)], [(41, 20)], [(41, 20)], [(41, 20), (42, 21), (43, 22), (44, 23)], [(41, 20)], [(41, 20), (45, 24), (46, 25)], [(41, 20), (47, 26)], [(41, 20), (48, 27)], [(49, 28)]] [(21, 0), (22, 1), (23, 2), (24, 3), (25, 4), (26, 5), (27, 6), (28, 7), (29, 8), (30, 9), (31, 10), (32, 11), (33, 12), (34, 13), (35, 14), (36, 15), (37, 16), (38, 17), (39, 18), (40, 19), (41, 20), (42, 21), (43, 22), (44, 23), (45, 24), (46, 25), (47, 26), (48, 27), (49, 28), (2, 29)] [
          (fun v _ _ => v = .bool true),
          (fun v _ _ => v = .bool true),
          (fun v _ _ => v = .agg #[.int .i64 xa, .int .i64 ya]),
          (fun v _ _ => v = .agg #[.int .i64 xb, .int .i64 yb]),
          (fun v _ _ => v = .agg #[.int .i64 xc, .int .i64 yc]),
          (fun v _ _ => v = .agg #[.int .i64 xd, .int .i64 yd]),
          (fun v _ _ => v = .int .u64 (mk (crossB xa ya xb yb xc yc xd yd))),
          (fun v _ _ => v = .int .u64 (mk (meetB xa ya xb yb xc yc xd yd))),
          (fun v _ _ => v = .int .u64 (bits .andNot .u64 (mk (crossB xa ya xb yb xc yc xd yd)) (mk (meetB xa ya xb yb xc yc xd yd)))),
          (fun v _ _ => v = .bool true),
          (fun v _ _ => v = .bool true),
          (fun v _ _ => v = .bool true),
          (fun v _ _ => v = .agg #[.int .i64 xa, .int .i64 ya]),
          (fun v _ _ => v = .agg #[.int .i64 xb, .int .i64 yb]),
          (fun v _ _ => v = .agg #[.int .i64 xc, .int .i64 yc]),
          (fun v _ _ => v = .int .u64 (mk (contB xa ya xb yb xc yc))),
          (fun v _ _ => v = .int .u64 (mk (meetB xa ya xb yb xc yc xd yd))),
          (fun v _ _ => v = .int .u64 (bits .andNot .u64 (mk (contB xa ya xb yb xc yc)) (mk (meetB xa ya xb yb xc yc xd yd)))),
          (fun v _ _ => v = .bool true),
          (fun v _ _ => v = .bool true),
          (fun v _ _ => v = .bool true),
          (fun v _ _ => v = .agg #[.int .i64 xc, .int .i64 yc]),
          (fun v _ _ => v = .agg #[.int .i64 xd, .int .i64 yd]),
          (fun v _ _ => v = .agg #[.int .i64 xb, .int .i64 yb]),
          (fun v _ _ => v = .int .u64 (mk (contB xc yc xd yd xb yb))),
          (fun v _ _ => v = .int .u64 (mk (meetB xa ya xb yb xc yc xd yd))),
          (fun v _ _ => v = .int .u64 (bits .andNot .u64 (mk (contB xc yc xd yd xb yb)) (mk (meetB xa ya xb yb xc yc xd yd)))),
          (fun v _ _ => v = .bool true),
          (fun v _ _ => v = .bool true),
          (fun v _ _ => v = .bool true)
        ] (fun _ => none) (by kernel_rfl) (by kernel_rfl) ⟨stab_eq, stab_eq, stab_eq, stab_eq, stab_eq, stab_eq, stab_eq, stab_eq, stab_eq, stab_eq, stab_eq, stab_eq, stab_eq, stab_eq, stab_eq, stab_eq, stab_eq, stab_eq, stab_eq, stab_eq, stab_eq, stab_eq, stab_eq, stab_eq, stab_eq, stab_eq, stab_eq, stab_eq, stab_eq, stab_eq, trivial⟩ ?steps ?fin
      case steps =>
        refine ⟨?_, ?_, ?_, ?_, ?_, ?_, ?_, ?_, ?_, ?_, ?_, ?_, ?_, ?_, ?_, ?_, ?_, ?_, ?_, ?_, ?_, ?_, ?_, ?_, ?_, ?_, ?_, ?_, ?_, ?_, trivial⟩
        · intro vs g w2 hI hF hR K hK
          simp only [Facts, fill, Act.put, z1, z2, z3, z4, z5, Nat.reduceAdd] at hF hR hK ⊢
          go_simp
          refine (gAlive8 hI hw).mono ?_
          rintro e w3 ⟨v3, rfl, hv, hb⟩
          exact hK _ _ _ (hI.call hb) (Step.call hI hb) hv
        · intro vs g w2 hI hF hR K hK
          simp only [Facts, fill, Act.put, z1, z2, z3, z4, z5, Nat.reduceAdd] at hF hR hK ⊢
          obtain ⟨r0, -⟩ := hR
          generalize vs 0 = x0 at *
          subst r0
          go_simp
          exact hK _ _ _ hI (Step.refl hI) rfl
        · intro vs g w2 hI hF hR K hK
          simp only [Facts, fill, Act.put, z1, z2, z3, z4, z5, Nat.reduceAdd] at hF hR hK ⊢
          obtain ⟨r1, -⟩ := hR
          generalize vs 1 = x1 at *
          subst r1
          have k0 := hI.cell CR13_R2_0.out (fun _ h => by cases h)
          have k1 := hI.cell CR13_R2_1.out (fun _ h => by cases h)
          go_simp
          exact hK _ _ _ hI (Step.refl hI) rfl
        · intro vs g w2 hI hF hR K hK
          simp only [Facts, fill, Act.put, z1, z2, z3, z4, z5, Nat.reduceAdd] at hF hR hK ⊢
          obtain ⟨r1, -⟩ := hR
          generalize vs 1 = x1 at *
          subst r1
          have k0 := hI.cell CR14_R2_0.out (fun _ h => by cases h)
          have k1 := hI.cell CR14_R2_1.out (fun _ h => by cases h)
          go_simp
          exact hK _ _ _ hI (Step.refl hI) rfl
        · intro vs g w2 hI hF hR K hK
          simp only [Facts, fill, Act.put, z1, z2, z3, z4, z5, Nat.reduceAdd] at hF hR hK ⊢
          obtain ⟨r1, -⟩ := hR
          generalize vs 1 = x1 at *
          subst r1
          have k0 := hI.cell CR15_R2_0.out (fun _ h => by cases h)
          have k1 := hI.cell CR15_R2_1.out (fun _ h => by cases h)
          go_simp
          exact hK _ _ _ hI (Step.refl hI) rfl
        · intro vs g w2 hI hF hR K hK
          simp only [Facts, fill, Act.put, z1, z2, z3, z4, z5, Nat.reduceAdd] at hF hR hK ⊢
          obtain ⟨r1, -⟩ := hR
          generalize vs 1 = x1 at *
          subst r1
          have k0 := hI.cell CR16_R2_0.out (fun _ h => by cases h)
          have k1 := hI.cell CR16_R2_1.out (fun _ h => by cases h)
          go_simp
          exact hK _ _ _ hI (Step.refl hI) rfl
        · intro vs g w2 hI hF hR K hK
          simp only [Facts, fill, Act.put, z1, z2, z3, z4, z5, Nat.reduceAdd] at hF hR hK ⊢
          obtain ⟨r1, r2, r3, r4, r5, -⟩ := hR
          generalize vs 1 = x1, vs 2 = x2, vs 3 = x3, vs 4 = x4, vs 5 = x5 at *
          subst r1 r2 r3 r4 r5
          go_simp
          refine (gSegCrosses hI hw (by first | assumption | (unfold S; decide)) (by first | assumption | (unfold S; decide)) (by first | assumption | (unfold S; decide)) (by first | assumption | (unfold S; decide)) (by first | assumption | (unfold S; decide)) (by first | assumption | (unfold S; decide)) (by first | assumption | (unfold S; decide)) (by first | assumption | (unfold S; decide))).mono ?_
          rintro e w3 ⟨v3, rfl, hv, hb⟩
          exact hK _ _ _ (hI.call hb) (Step.call hI hb) hv
        · intro vs g w2 hI hF hR K hK
          simp only [Facts, fill, Act.put, z1, z2, z3, z4, z5, Nat.reduceAdd] at hF hR hK ⊢
          obtain ⟨r1, -⟩ := hR
          generalize vs 1 = x1 at *
          subst r1
          go_simp
          exact hK _ _ _ hI (Step.refl hI) rfl
        · intro vs g w2 hI hF hR K hK
          simp only [Facts, fill, Act.put, z1, z2, z3, z4, z5, Nat.reduceAdd] at hF hR hK ⊢
          obtain ⟨r1, r6, r7, -⟩ := hR
          generalize vs 1 = x1, vs 6 = x6, vs 7 = x7 at *
          subst r1 r6 r7
          go_simp
          exact hK _ _ _ hI (Step.refl hI) rfl
        · intro vs g w2 hI hF hR K hK
          simp only [Facts, fill, Act.put, z1, z2, z3, z4, z5, Nat.reduceAdd] at hF hR hK ⊢
          obtain ⟨r1, r8, -⟩ := hR
          generalize vs 1 = x1, vs 8 = x8 at *
          subst r1 r8
          have hz : ((bits .andNot .u64 (mk (crossB xa ya xb yb xc yc xd yd)) (mk (meetB xa ya xb yb xc yc xd yd))) == 0) = true := (q_imp_1 xa ya xb yb xc yc xd yd)
          go_simp
          exact hK _ _ _ hI (Step.refl hI) rfl
        · intro vs g w2 hI hF hR K hK
          simp only [Facts, fill, Act.put, z1, z2, z3, z4, z5, Nat.reduceAdd] at hF hR hK ⊢
          obtain ⟨r1, r9, -⟩ := hR
          generalize vs 1 = x1, vs 9 = x9 at *
          subst r1 r9
          go_simp
          exact hK _ _ _ hI (Step.refl hI) rfl
        · intro vs g w2 hI hF hR K hK
          simp only [Facts, fill, Act.put, z1, z2, z3, z4, z5, Nat.reduceAdd] at hF hR hK ⊢
          obtain ⟨r10, -⟩ := hR
          generalize vs 10 = x10 at *
          subst r10
          go_simp
          exact hK _ _ _ hI (Step.refl hI) rfl
        · intro vs g w2 hI hF hR K hK
          simp only [Facts, fill, Act.put, z1, z2, z3, z4, z5, Nat.reduceAdd] at hF hR hK ⊢
          obtain ⟨r11, -⟩ := hR
          generalize vs 11 = x11 at *
          subst r11
          have k0 := hI.cell CR13_R2_0.out (fun _ h => by cases h)
          have k1 := hI.cell CR13_R2_1.out (fun _ h => by cases h)
          go_simp
          exact hK _ _ _ hI (Step.refl hI) rfl
        · intro vs g w2 hI hF hR K hK
          simp only [Facts, fill, Act.put, z1, z2, z3, z4, z5, Nat.reduceAdd] at hF hR hK ⊢
          obtain ⟨r11, -⟩ := hR
          generalize vs 11 = x11 at *
          subst r11
          have k0 := hI.cell CR14_R2_0.out (fun _ h => by cases h)
          have k1 := hI.cell CR14_R2_1.out (fun _ h => by cases h)
          go_simp
          exact hK _ _ _ hI (Step.refl hI) rfl
        · intro vs g w2 hI hF hR K hK
          simp only [Facts, fill, Act.put, z1, z2, z3, z4, z5, Nat.reduceAdd] at hF hR hK ⊢
          obtain ⟨r11, -⟩ := hR
          generalize vs 11 = x11 at *
          subst r11
          have k0 := hI.cell CR15_R2_0.out (fun _ h => by cases h)
          have k1 := hI.cell CR15_R2_1.out (fun _ h => by cases h)
          go_simp
          exact hK _ _ _ hI (Step.refl hI) rfl
        · intro vs g w2 hI hF hR K hK
          simp only [Facts, fill, Act.put, z1, z2, z3, z4, z5, Nat.reduceAdd] at hF hR hK ⊢
          obtain ⟨r11, r12, r13, r14, -⟩ := hR
          generalize vs 11 = x11, vs 12 = x12, vs 13 = x13, vs 14 = x14 at *
          subst r11 r12 r13 r14
          go_simp
          refine (gSegContains hI hw (by first | assumption | (unfold S; decide)) (by first | assumption | (unfold S; decide)) (by first | assumption | (unfold S; decide)) (by first | assumption | (unfold S; decide)) (by first | assumption | (unfold S; decide)) (by first | assumption | (unfold S; decide))).mono ?_
          rintro e w3 ⟨v3, rfl, hv, hb⟩
          exact hK _ _ _ (hI.call hb) (Step.call hI hb) hv
        · intro vs g w2 hI hF hR K hK
          simp only [Facts, fill, Act.put, z1, z2, z3, z4, z5, Nat.reduceAdd] at hF hR hK ⊢
          obtain ⟨r11, -⟩ := hR
          generalize vs 11 = x11 at *
          subst r11
          go_simp
          exact hK _ _ _ hI (Step.refl hI) rfl
        · intro vs g w2 hI hF hR K hK
          simp only [Facts, fill, Act.put, z1, z2, z3, z4, z5, Nat.reduceAdd] at hF hR hK ⊢
          obtain ⟨r11, r15, r16, -⟩ := hR
          generalize vs 11 = x11, vs 15 = x15, vs 16 = x16 at *
          subst r11 r15 r16
          go_simp
          exact hK _ _ _ hI (Step.refl hI) rfl
        · intro vs g w2 hI hF hR K hK
          simp only [Facts, fill, Act.put, z1, z2, z3, z4, z5, Nat.reduceAdd] at hF hR hK ⊢
          obtain ⟨r11, r17, -⟩ := hR
          generalize vs 11 = x11, vs 17 = x17 at *
          subst r11 r17
          have hz : ((bits .andNot .u64 (mk (contB xa ya xb yb xc yc)) (mk (meetB xa ya xb yb xc yc xd yd))) == 0) = true := (q_imp_2 xa ya xb yb xc yc xd yd)
          go_simp
          exact hK _ _ _ hI (Step.refl hI) rfl
        · intro vs g w2 hI hF hR K hK
          simp only [Facts, fill, Act.put, z1, z2, z3, z4, z5, Nat.reduceAdd] at hF hR hK ⊢
          obtain ⟨r11, r18, -⟩ := hR
          generalize vs 11 = x11, vs 18 = x18 at *
          subst r11 r18
          go_simp
          exact hK _ _ _ hI (Step.refl hI) rfl
        · intro vs g w2 hI hF hR K hK
          simp only [Facts, fill, Act.put, z1, z2, z3, z4, z5, Nat.reduceAdd] at hF hR hK ⊢
          obtain ⟨r19, -⟩ := hR
          generalize vs 19 = x19 at *
          subst r19
          go_simp
          exact hK _ _ _ hI (Step.refl hI) rfl
        · intro vs g w2 hI hF hR K hK
          simp only [Facts, fill, Act.put, z1, z2, z3, z4, z5, Nat.reduceAdd] at hF hR hK ⊢
          obtain ⟨r20, -⟩ := hR
          generalize vs 20 = x20 at *
          subst r20
          have k0 := hI.cell CR15_R2_0.out (fun _ h => by cases h)
          have k1 := hI.cell CR15_R2_1.out (fun _ h => by cases h)
          go_simp
          exact hK _ _ _ hI (Step.refl hI) rfl
        · intro vs g w2 hI hF hR K hK
          simp only [Facts, fill, Act.put, z1, z2, z3, z4, z5, Nat.reduceAdd] at hF hR hK ⊢
          obtain ⟨r20, -⟩ := hR
          generalize vs 20 = x20 at *
          subst r20
          have k0 := hI.cell CR16_R2_0.out (fun _ h => by cases h)
          have k1 := hI.cell CR16_R2_1.out (fun _ h => by cases h)
          go_simp
          exact hK _ _ _ hI (Step.refl hI) rfl
        · intro vs g w2 hI hF hR K hK
          simp only [Facts, fill, Act.put, z1, z2, z3, z4, z5, Nat.reduceAdd] at hF hR hK ⊢
          obtain ⟨r20, -⟩ := hR
          generalize vs 20 = x20 at *
          subst r20
          have k0 := hI.cell CR14_R2_0.out (fun _ h => by cases h)
          have k1 := hI.cell CR14_R2_1.out (fun _ h => by cases h)
          go_simp
          exact hK _ _ _ hI (Step.refl hI) rfl
        · intro vs g w2 hI hF hR K hK
          simp only [Facts, fill, Act.put, z1, z2, z3, z4, z5, Nat.reduceAdd] at hF hR hK ⊢
          obtain ⟨r20, r21, r22, r23, -⟩ := hR
          generalize vs 20 = x20, vs 21 = x21, vs 22 = x22, vs 23 = x23 at *
          subst r20 r21 r22 r23
          go_simp
          refine (gSegContains hI hw (by first | assumption | (unfold S; decide)) (by first | assumption | (unfold S; decide)) (by first | assumption | (unfold S; decide)) (by first | assumption | (unfold S; decide)) (by first | assumption | (unfold S; decide)) (by first | assumption | (unfold S; decide))).mono ?_
          rintro e w3 ⟨v3, rfl, hv, hb⟩
          exact hK _ _ _ (hI.call hb) (Step.call hI hb) hv
        · intro vs g w2 hI hF hR K hK
          simp only [Facts, fill, Act.put, z1, z2, z3, z4, z5, Nat.reduceAdd] at hF hR hK ⊢
          obtain ⟨r20, -⟩ := hR
          generalize vs 20 = x20 at *
          subst r20
          go_simp
          exact hK _ _ _ hI (Step.refl hI) rfl
        · intro vs g w2 hI hF hR K hK
          simp only [Facts, fill, Act.put, z1, z2, z3, z4, z5, Nat.reduceAdd] at hF hR hK ⊢
          obtain ⟨r20, r24, r25, -⟩ := hR
          generalize vs 20 = x20, vs 24 = x24, vs 25 = x25 at *
          subst r20 r24 r25
          go_simp
          exact hK _ _ _ hI (Step.refl hI) rfl
        · intro vs g w2 hI hF hR K hK
          simp only [Facts, fill, Act.put, z1, z2, z3, z4, z5, Nat.reduceAdd] at hF hR hK ⊢
          obtain ⟨r20, r26, -⟩ := hR
          generalize vs 20 = x20, vs 26 = x26 at *
          subst r20 r26
          have hz : ((bits .andNot .u64 (mk (contB xc yc xd yd xb yb)) (mk (meetB xa ya xb yb xc yc xd yd))) == 0) = true := (q_imp_3 xa ya xb yb xc yc xd yd)
          go_simp
          exact hK _ _ _ hI (Step.refl hI) rfl
        · intro vs g w2 hI hF hR K hK
          simp only [Facts, fill, Act.put, z1, z2, z3, z4, z5, Nat.reduceAdd] at hF hR hK ⊢
          obtain ⟨r20, r27, -⟩ := hR
          generalize vs 20 = x20, vs 27 = x27 at *
          subst r20 r27
          go_simp
          exact hK _ _ _ hI (Step.refl hI) rfl
        · intro vs g w2 hI hF hR K hK
          simp only [Facts, fill, Act.put, z1, z2, z3, z4, z5, Nat.reduceAdd] at hF hR hK ⊢
          obtain ⟨r28, -⟩ := hR
          generalize vs 28 = x28 at *
          subst r28
          go_simp
          exact hK _ _ _ hI (Step.refl hI) rfl
      case fin =>
        intro vs g wR3 hI hR
        have r29 := hR 29 (by decide)
        simp only [fill, Act.put, z1, z2, z3, z4, z5] at r29 ⊢
        clear hR
        generalize vs 29 = x29 at *
        have Cp_R3_0 := Lib.hid (hI.cell Cp_R2_0.out (fun _ h => by cases h))
        have Cp_R3_1 := Lib.hid (hI.cell Cp_R2_1.out (fun _ h => by cases h))
        have Cp_R3_2 := Lib.hid (hI.cell Cp_R2_2.out (fun _ h => by cases h))
        have Cp_R3_3 := Lib.hid (hI.cell Cp_R2_3.out (fun _ h => by cases h))
        have Cp_R3_4 := Lib.hid (hI.cell Cp_R2_4.out (fun _ h => by cases h))
        have Cp_R3_5 := Lib.hid (hI.cell Cp_R2_5.out (fun _ h => by cases h))
        have Cp_R3_6 := Lib.hid (hI.cell Cp_R2_6.out (fun _ h => by cases h))
        have Cp_R3_7 := Lib.hid (hI.cell Cp_R2_7.out (fun _ h => by cases h))
        have CR13_R3_0 := Lib.hid (hI.cell CR13_R2_0.out (fun _ h => by cases h))
        have CR13_R3_1 := Lib.hid (hI.cell CR13_R2_1.out (fun _ h => by cases h))
        have CR14_R3_0 := Lib.hid (hI.cell CR14_R2_0.out (fun _ h => by cases h))
        have CR14_R3_1 := Lib.hid (hI.cell CR14_R2_1.out (fun _ h => by cases h))
        have CR15_R3_0 := Lib.hid (hI.cell CR15_R2_0.out (fun _ h => by cases h))
        have CR15_R3_1 := Lib.hid (hI.cell CR15_R2_1.out (fun _ h => by cases h))
        have CR16_R3_0 := Lib.hid (hI.cell CR16_R2_0.out (fun _ h => by cases h))
        have CR16_R3_1 := Lib.hid (hI.cell CR16_R2_1.out (fun _ h => by cases h))
        subst r29
        have hBR3 := hI.below
        have HCR3 := hI.next HCR2
        clear hI
        go_wp2
        go_ret
        exact ⟨rfl, hBR3⟩
end Go.Proofs.YtckhgamojpbcgaaDoor
