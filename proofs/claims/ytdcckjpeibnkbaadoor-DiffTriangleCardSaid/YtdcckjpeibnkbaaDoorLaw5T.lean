/-
  Law DiffTriangle. (Written by law5.py.)
-/
import Derived.Test.YtdcckjpeibnkbaaDoorGen5b
namespace Go.Proofs.YtdcckjpeibnkbaaDoor
open Go.RowKit
set_option linter.unusedSimpArgs false
set_option linter.unusedVariables false

set_option maxRecDepth 100000 in
set_option maxHeartbeats 4000000 in
theorem law_diffTriangle (xa ya xb yb xc yc xd yd : Int) (w : World) (hw : Wts w) (sxa : S xa) (sya : S ya) (sxb : S xb) (syb : S yb) (sxc : S xc) (syc : S yc) (sxd : S xd) (syd : S yd) :
    Calls Tryd.prog 8 #[.agg #[.int .i64 xa, .int .i64 ya, .int .i64 xb, .int .i64 yb], .agg #[.int .i64 xc, .int .i64 yc, .int .i64 xd, .int .i64 yd]] w fun e w' => e = .returned (.bool true) ∧ Below w.heap.size w w' := by
  obtain ⟨W, hW⟩ : ∃ W, W = (w.alloc (.cells #[.int .i64 xa, .int .i64 ya, .int .i64 xb, .int .i64 yb] 52)).alloc (.cells #[.int .i64 xc, .int .i64 yc, .int .i64 xd, .int .i64 yd] 52) := ⟨_, rfl⟩
  have hb0 : Below w.heap.size w W := by rw [hW]; exact (((Below.refl _ _).alloc (Nat.le_refl _) _).alloc (by simp) _)
  have Cab_W_0 := Lib.hid (show W.cell? ⟨w.heap.size, 0, none⟩ = some (.int .i64 xa) by rw [hW]; simp [go_sem])
  have Cab_W_1 := Lib.hid (show W.cell? ⟨w.heap.size, 1, none⟩ = some (.int .i64 ya) by rw [hW]; simp [go_sem])
  have Cab_W_2 := Lib.hid (show W.cell? ⟨w.heap.size, 2, none⟩ = some (.int .i64 xb) by rw [hW]; simp [go_sem])
  have Cab_W_3 := Lib.hid (show W.cell? ⟨w.heap.size, 3, none⟩ = some (.int .i64 yb) by rw [hW]; simp [go_sem])
  have Ccd_W_0 := Lib.hid (show W.cell? ⟨w.heap.size + 1, 0, none⟩ = some (.int .i64 xc) by rw [hW]; simp [go_sem])
  have Ccd_W_1 := Lib.hid (show W.cell? ⟨w.heap.size + 1, 1, none⟩ = some (.int .i64 yc) by rw [hW]; simp [go_sem])
  have Ccd_W_2 := Lib.hid (show W.cell? ⟨w.heap.size + 1, 2, none⟩ = some (.int .i64 xd) by rw [hW]; simp [go_sem])
  have Ccd_W_3 := Lib.hid (show W.cell? ⟨w.heap.size + 1, 3, none⟩ = some (.int .i64 yd) by rw [hW]; simp [go_sem])
  have HW := Lib.hid hW
  clear hW
  go_enter Tryd.func8, Tryd.ntmps8
  go_upto_region 1 with (fail)
  rw [← HW.out]
  refine box_plan (c := ⟨w, W, (fun _ => none)⟩) (Ctx.ok_none hb0) (by kernel_rfl) [[], [(17, 0)], [], [(19, 2)], [], [(21, 4)], [], [(23, 6)], [], [], [], [], [(5, 8), (18, 1)], [(6, 9), (20, 3)], [(7, 10), (22, 5)], [(8, 11), (24, 7)]] [(17, 0), (18, 1), (19, 2), (20, 3), (21, 4), (22, 5), (23, 6), (24, 7), (5, 8), (6, 9), (7, 10), (8, 11)] [
      (fun v _ _ => v = .pointer (some ⟨w.heap.size, 0, none⟩)),
      (fun v _ _ => v = .agg #[.int .i64 xa, .int .i64 ya]),
      (fun v _ _ => v = .pointer (some ⟨w.heap.size, 2, none⟩)),
      (fun v _ _ => v = .agg #[.int .i64 xb, .int .i64 yb]),
      (fun v _ _ => v = .pointer (some ⟨w.heap.size + 1, 0, none⟩)),
      (fun v _ _ => v = .agg #[.int .i64 xc, .int .i64 yc]),
      (fun v _ _ => v = .pointer (some ⟨w.heap.size + 1, 2, none⟩)),
      (fun v _ _ => v = .agg #[.int .i64 xd, .int .i64 yd]),
      PtrR 8 2,
      PtrR 9 2,
      PtrR 10 2,
      PtrR 11 2,
      (fun _ g w => BoxR 8 (fun v _ _ => v = .agg #[.int .i64 xa, .int .i64 ya]) g w),
      (fun _ g w => BoxR 9 (fun v _ _ => v = .agg #[.int .i64 xb, .int .i64 yb]) g w),
      (fun _ g w => BoxR 10 (fun v _ _ => v = .agg #[.int .i64 xc, .int .i64 yc]) g w),
      (fun _ g w => BoxR 11 (fun v _ _ => v = .agg #[.int .i64 xd, .int .i64 yd]) g w)
    ] (fun i => match i with | 8 => some 12 | 9 => some 13 | 10 => some 14 | 11 => some 15 | _ => none) (by kernel_rfl) (by kernel_rfl) ⟨stab_eq, stab_eq, stab_eq, stab_eq, stab_eq, stab_eq, stab_eq, stab_eq, stab_ptr, stab_ptr, stab_ptr, stab_ptr, stab_box (firm_eq _) rfl, stab_box (firm_eq _) rfl, stab_box (firm_eq _) rfl, stab_box (firm_eq _) rfl, trivial⟩ ?steps ?fin
  case steps =>
    refine ⟨?_, ?_, ?_, ?_, ?_, ?_, ?_, ?_, ?_, ?_, ?_, ?_, ?_, ?_, ?_, ?_, trivial⟩
    · intro vs g w2 hI hF hR K hK
      simp only [Facts, fill, Act.put, z1, z2, z3, z4, z5, Nat.reduceAdd] at hF hR hK ⊢
      go_simp
      exact hK _ _ _ hI (Step.refl hI) rfl
    · intro vs g w2 hI hF hR K hK
      simp only [Facts, fill, Act.put, z1, z2, z3, z4, z5, Nat.reduceAdd] at hF hR hK ⊢
      obtain ⟨r0, -⟩ := hR
      generalize vs 0 = x0 at *
      subst r0
      have k0 := hI.cell Cab_W_0.out (fun _ h => by cases h)
      have k1 := hI.cell Cab_W_1.out (fun _ h => by cases h)
      go_simp
      exact hK _ _ _ hI (Step.refl hI) rfl
    · intro vs g w2 hI hF hR K hK
      simp only [Facts, fill, Act.put, z1, z2, z3, z4, z5, Nat.reduceAdd] at hF hR hK ⊢
      go_simp
      exact hK _ _ _ hI (Step.refl hI) rfl
    · intro vs g w2 hI hF hR K hK
      simp only [Facts, fill, Act.put, z1, z2, z3, z4, z5, Nat.reduceAdd] at hF hR hK ⊢
      obtain ⟨r2, -⟩ := hR
      generalize vs 2 = x2 at *
      subst r2
      have k0 := hI.cell Cab_W_2.out (fun _ h => by cases h)
      have k1 := hI.cell Cab_W_3.out (fun _ h => by cases h)
      go_simp
      exact hK _ _ _ hI (Step.refl hI) rfl
    · intro vs g w2 hI hF hR K hK
      simp only [Facts, fill, Act.put, z1, z2, z3, z4, z5, Nat.reduceAdd] at hF hR hK ⊢
      go_simp
      exact hK _ _ _ hI (Step.refl hI) rfl
    · intro vs g w2 hI hF hR K hK
      simp only [Facts, fill, Act.put, z1, z2, z3, z4, z5, Nat.reduceAdd] at hF hR hK ⊢
      obtain ⟨r4, -⟩ := hR
      generalize vs 4 = x4 at *
      subst r4
      have k0 := hI.cell Ccd_W_0.out (fun _ h => by cases h)
      have k1 := hI.cell Ccd_W_1.out (fun _ h => by cases h)
      go_simp
      exact hK _ _ _ hI (Step.refl hI) rfl
    · intro vs g w2 hI hF hR K hK
      simp only [Facts, fill, Act.put, z1, z2, z3, z4, z5, Nat.reduceAdd] at hF hR hK ⊢
      go_simp
      exact hK _ _ _ hI (Step.refl hI) rfl
    · intro vs g w2 hI hF hR K hK
      simp only [Facts, fill, Act.put, z1, z2, z3, z4, z5, Nat.reduceAdd] at hF hR hK ⊢
      obtain ⟨r6, -⟩ := hR
      generalize vs 6 = x6 at *
      subst r6
      have k0 := hI.cell Ccd_W_2.out (fun _ h => by cases h)
      have k1 := hI.cell Ccd_W_3.out (fun _ h => by cases h)
      go_simp
      exact hK _ _ _ hI (Step.refl hI) rfl
    · intro vs g w2 hI hF hR K hK
      simp only [Facts, fill, Act.put, z1, z2, z3, z4, z5, Nat.reduceAdd] at hF hR hK ⊢
      go_simp
      exact hK _ _ _ (hI.alloc _ (hF (by decide)) _) (Step.alloc hI (hF (by decide)) _) ⟨_, rfl, more_at _ _ _, box2' _ _ _ _⟩
    · intro vs g w2 hI hF hR K hK
      simp only [Facts, fill, Act.put, z1, z2, z3, z4, z5, Nat.reduceAdd] at hF hR hK ⊢
      go_simp
      exact hK _ _ _ (hI.alloc _ (hF (by decide)) _) (Step.alloc hI (hF (by decide)) _) ⟨_, rfl, more_at _ _ _, box2' _ _ _ _⟩
    · intro vs g w2 hI hF hR K hK
      simp only [Facts, fill, Act.put, z1, z2, z3, z4, z5, Nat.reduceAdd] at hF hR hK ⊢
      go_simp
      exact hK _ _ _ (hI.alloc _ (hF (by decide)) _) (Step.alloc hI (hF (by decide)) _) ⟨_, rfl, more_at _ _ _, box2' _ _ _ _⟩
    · intro vs g w2 hI hF hR K hK
      simp only [Facts, fill, Act.put, z1, z2, z3, z4, z5, Nat.reduceAdd] at hF hR hK ⊢
      go_simp
      exact hK _ _ _ (hI.alloc _ (hF (by decide)) _) (Step.alloc hI (hF (by decide)) _) ⟨_, rfl, more_at _ _ _, box2' _ _ _ _⟩
    · intro vs g w2 hI hF hR K hK
      simp only [Facts, fill, Act.put, z1, z2, z3, z4, z5, Nat.reduceAdd] at hF hR hK ⊢
      obtain ⟨r8, r1, -⟩ := hR
      generalize vs 8 = x8, vs 1 = x1 at *
      subst r1
      obtain ⟨k, rfl, hk, hbx⟩ := r8
      obtain ⟨⟨u0, k0⟩, f0⟩ := hbx 0 (by decide)
      obtain ⟨⟨u1, k1⟩, f1⟩ := hbx 1 (by decide)
      go_simp
      have ht := (((Touch.refl w2 k).set 0 (.int .i64 xa)).set 1 (.int .i64 ya))
      exact hK undef _ _ (hI.store (by decide) hk ht) (Step.store hI rfl hk ht) ⟨k, .agg #[.int .i64 xa, .int .i64 ya], hk, by rw [ht.size]; exact hI.lt _ _ hk, cells2 k0 k1 (.int .i64 xa) (.int .i64 ya), rfl⟩
    · intro vs g w2 hI hF hR K hK
      simp only [Facts, fill, Act.put, z1, z2, z3, z4, z5, Nat.reduceAdd] at hF hR hK ⊢
      obtain ⟨r9, r3, -⟩ := hR
      generalize vs 9 = x9, vs 3 = x3 at *
      subst r3
      obtain ⟨k, rfl, hk, hbx⟩ := r9
      obtain ⟨⟨u0, k0⟩, f0⟩ := hbx 0 (by decide)
      obtain ⟨⟨u1, k1⟩, f1⟩ := hbx 1 (by decide)
      go_simp
      have ht := (((Touch.refl w2 k).set 0 (.int .i64 xb)).set 1 (.int .i64 yb))
      exact hK undef _ _ (hI.store (by decide) hk ht) (Step.store hI rfl hk ht) ⟨k, .agg #[.int .i64 xb, .int .i64 yb], hk, by rw [ht.size]; exact hI.lt _ _ hk, cells2 k0 k1 (.int .i64 xb) (.int .i64 yb), rfl⟩
    · intro vs g w2 hI hF hR K hK
      simp only [Facts, fill, Act.put, z1, z2, z3, z4, z5, Nat.reduceAdd] at hF hR hK ⊢
      obtain ⟨r10, r5, -⟩ := hR
      generalize vs 10 = x10, vs 5 = x5 at *
      subst r5
      obtain ⟨k, rfl, hk, hbx⟩ := r10
      obtain ⟨⟨u0, k0⟩, f0⟩ := hbx 0 (by decide)
      obtain ⟨⟨u1, k1⟩, f1⟩ := hbx 1 (by decide)
      go_simp
      have ht := (((Touch.refl w2 k).set 0 (.int .i64 xc)).set 1 (.int .i64 yc))
      exact hK undef _ _ (hI.store (by decide) hk ht) (Step.store hI rfl hk ht) ⟨k, .agg #[.int .i64 xc, .int .i64 yc], hk, by rw [ht.size]; exact hI.lt _ _ hk, cells2 k0 k1 (.int .i64 xc) (.int .i64 yc), rfl⟩
    · intro vs g w2 hI hF hR K hK
      simp only [Facts, fill, Act.put, z1, z2, z3, z4, z5, Nat.reduceAdd] at hF hR hK ⊢
      obtain ⟨r11, r7, -⟩ := hR
      generalize vs 11 = x11, vs 7 = x7 at *
      subst r7
      obtain ⟨k, rfl, hk, hbx⟩ := r11
      obtain ⟨⟨u0, k0⟩, f0⟩ := hbx 0 (by decide)
      obtain ⟨⟨u1, k1⟩, f1⟩ := hbx 1 (by decide)
      go_simp
      have ht := (((Touch.refl w2 k).set 0 (.int .i64 xd)).set 1 (.int .i64 yd))
      exact hK undef _ _ (hI.store (by decide) hk ht) (Step.store hI rfl hk ht) ⟨k, .agg #[.int .i64 xd, .int .i64 yd], hk, by rw [ht.size]; exact hI.lt _ _ hk, cells2 k0 k1 (.int .i64 xd) (.int .i64 yd), rfl⟩
  case fin =>
    intro vs g wR1 hI hR
    have r8 := hR 8 (by decide)
    have r9 := hR 9 (by decide)
    have r10 := hR 10 (by decide)
    have r11 := hR 11 (by decide)
    have r12 := hR 12 (by decide)
    have r13 := hR 13 (by decide)
    have r14 := hR 14 (by decide)
    have r15 := hR 15 (by decide)
    simp only [fill, Act.put, z1, z2, z3, z4, z5] at r8 r9 r10 r11 r12 r13 r14 r15 ⊢
    clear hR
    generalize vs 8 = x8 at *
    generalize vs 9 = x9 at *
    generalize vs 10 = x10 at *
    generalize vs 11 = x11 at *
    generalize vs 12 = x12 at *
    generalize vs 13 = x13 at *
    generalize vs 14 = x14 at *
    generalize vs 15 = x15 at *
    have Cab_R1_0 := Lib.hid (hI.cell Cab_W_0.out (fun _ h => by cases h))
    have Cab_R1_1 := Lib.hid (hI.cell Cab_W_1.out (fun _ h => by cases h))
    have Cab_R1_2 := Lib.hid (hI.cell Cab_W_2.out (fun _ h => by cases h))
    have Cab_R1_3 := Lib.hid (hI.cell Cab_W_3.out (fun _ h => by cases h))
    have Ccd_R1_0 := Lib.hid (hI.cell Ccd_W_0.out (fun _ h => by cases h))
    have Ccd_R1_1 := Lib.hid (hI.cell Ccd_W_1.out (fun _ h => by cases h))
    have Ccd_R1_2 := Lib.hid (hI.cell Ccd_W_2.out (fun _ h => by cases h))
    have Ccd_R1_3 := Lib.hid (hI.cell Ccd_W_3.out (fun _ h => by cases h))
    obtain ⟨pR15, rfl, hkR15, -⟩ := r8
    obtain ⟨qR15, uR15, hqR15, -, hcR15, hrR15⟩ := r12
    rw [hkR15] at hqR15
    injection hqR15 with hqR15
    subst hqR15
    subst hrR15
    have CR15_R1_0 := Lib.hid (hcR15 0 _ rfl)
    have CR15_R1_1 := Lib.hid (hcR15 1 _ rfl)
    clear hcR15 hkR15
    obtain ⟨pR16, rfl, hkR16, -⟩ := r9
    obtain ⟨qR16, uR16, hqR16, -, hcR16, hrR16⟩ := r13
    rw [hkR16] at hqR16
    injection hqR16 with hqR16
    subst hqR16
    subst hrR16
    have CR16_R1_0 := Lib.hid (hcR16 0 _ rfl)
    have CR16_R1_1 := Lib.hid (hcR16 1 _ rfl)
    clear hcR16 hkR16
    obtain ⟨pR17, rfl, hkR17, -⟩ := r10
    obtain ⟨qR17, uR17, hqR17, -, hcR17, hrR17⟩ := r14
    rw [hkR17] at hqR17
    injection hqR17 with hqR17
    subst hqR17
    subst hrR17
    have CR17_R1_0 := Lib.hid (hcR17 0 _ rfl)
    have CR17_R1_1 := Lib.hid (hcR17 1 _ rfl)
    clear hcR17 hkR17
    obtain ⟨pR18, rfl, hkR18, -⟩ := r11
    obtain ⟨qR18, uR18, hqR18, -, hcR18, hrR18⟩ := r15
    rw [hkR18] at hqR18
    injection hqR18 with hqR18
    subst hqR18
    subst hrR18
    have CR18_R1_0 := Lib.hid (hcR18 0 _ rfl)
    have CR18_R1_1 := Lib.hid (hcR18 1 _ rfl)
    clear hcR18 hkR18
    have hBR1 := hI.below
    have HCR1 := hI.next (Ctx.ok_none hb0)
    clear hI
    go_upto_region 2 with (fail)
    refine box_plan (c := ⟨w, wR1, (fun _ => none)⟩) HCR1 (by kernel_rfl) [[], [], [(25, 0), (26, 1)], [], [], [(28, 3), (29, 4)], [], [], [(31, 6), (32, 7)], [], [], [(34, 9), (35, 10)], [], [], [], [], [(9, 12), (27, 2)], [(10, 13), (30, 5)], [(11, 14), (33, 8)], [(12, 15), (36, 11)]] [(25, 0), (26, 1), (27, 2), (28, 3), (29, 4), (30, 5), (31, 6), (32, 7), (33, 8), (34, 9), (35, 10), (36, 11), (9, 12), (10, 13), (11, 14), (12, 15)] [
        (fun v _ _ => v = .agg #[.int .i64 xa, .int .i64 ya]),
        (fun v _ _ => v = .agg #[.int .i64 xb, .int .i64 yb]),
        VecL (xb - xa) (yb - ya),
        (fun v _ _ => v = .agg #[.int .i64 xb, .int .i64 yb]),
        (fun v _ _ => v = .agg #[.int .i64 xc, .int .i64 yc]),
        VecL (xc - xb) (yc - yb),
        (fun v _ _ => v = .agg #[.int .i64 xa, .int .i64 ya]),
        (fun v _ _ => v = .agg #[.int .i64 xc, .int .i64 yc]),
        VecL (xc - xa) (yc - ya),
        (fun v _ _ => v = .agg #[.int .i64 xa, .int .i64 ya]),
        (fun v _ _ => v = .agg #[.int .i64 xd, .int .i64 yd]),
        VecL (xd - xa) (yd - ya),
        PtrR 12 2,
        PtrR 13 2,
        PtrR 14 2,
        PtrR 15 2,
        (fun _ g w => BoxR 12 (VecL (xb - xa) (yb - ya)) g w),
        (fun _ g w => BoxR 13 (VecL (xc - xb) (yc - yb)) g w),
        (fun _ g w => BoxR 14 (VecL (xc - xa) (yc - ya)) g w),
        (fun _ g w => BoxR 15 (VecL (xd - xa) (yd - ya)) g w)
      ] (fun i => match i with | 12 => some 16 | 13 => some 17 | 14 => some 18 | 15 => some 19 | _ => none) (by kernel_rfl) (by kernel_rfl) ⟨stab_eq, stab_eq, stab_firm (vecL_firm _ _), stab_eq, stab_eq, stab_firm (vecL_firm _ _), stab_eq, stab_eq, stab_firm (vecL_firm _ _), stab_eq, stab_eq, stab_firm (vecL_firm _ _), stab_ptr, stab_ptr, stab_ptr, stab_ptr, stab_box (vecL_firm _ _) rfl, stab_box (vecL_firm _ _) rfl, stab_box (vecL_firm _ _) rfl, stab_box (vecL_firm _ _) rfl, trivial⟩ ?steps ?fin
    case steps =>
      refine ⟨?_, ?_, ?_, ?_, ?_, ?_, ?_, ?_, ?_, ?_, ?_, ?_, ?_, ?_, ?_, ?_, ?_, ?_, ?_, ?_, trivial⟩
      · intro vs g w2 hI hF hR K hK
        simp only [Facts, fill, Act.put, z1, z2, z3, z4, z5, Nat.reduceAdd] at hF hR hK ⊢
        have k0 := hI.cell CR15_R1_0.out (fun _ h => by cases h)
        have k1 := hI.cell CR15_R1_1.out (fun _ h => by cases h)
        go_simp
        exact hK _ _ _ hI (Step.refl hI) rfl
      · intro vs g w2 hI hF hR K hK
        simp only [Facts, fill, Act.put, z1, z2, z3, z4, z5, Nat.reduceAdd] at hF hR hK ⊢
        have k0 := hI.cell CR16_R1_0.out (fun _ h => by cases h)
        have k1 := hI.cell CR16_R1_1.out (fun _ h => by cases h)
        go_simp
        exact hK _ _ _ hI (Step.refl hI) rfl
      · intro vs g w2 hI hF hR K hK
        simp only [Facts, fill, Act.put, z1, z2, z3, z4, z5, Nat.reduceAdd] at hF hR hK ⊢
        obtain ⟨r0, r1, -⟩ := hR
        generalize vs 0 = x0, vs 1 = x1 at *
        subst r0 r1
        go_simp
        refine (gBetween hI hw (by first | assumption | (unfold S; decide)) (by first | assumption | (unfold S; decide)) (by first | assumption | (unfold S; decide)) (by first | assumption | (unfold S; decide))).mono ?_
        rintro e w3 ⟨v3, rfl, hv, hb⟩
        exact hK _ _ _ (hI.call hb) (Step.call hI hb) hv
      · intro vs g w2 hI hF hR K hK
        simp only [Facts, fill, Act.put, z1, z2, z3, z4, z5, Nat.reduceAdd] at hF hR hK ⊢
        have k0 := hI.cell CR16_R1_0.out (fun _ h => by cases h)
        have k1 := hI.cell CR16_R1_1.out (fun _ h => by cases h)
        go_simp
        exact hK _ _ _ hI (Step.refl hI) rfl
      · intro vs g w2 hI hF hR K hK
        simp only [Facts, fill, Act.put, z1, z2, z3, z4, z5, Nat.reduceAdd] at hF hR hK ⊢
        have k0 := hI.cell CR17_R1_0.out (fun _ h => by cases h)
        have k1 := hI.cell CR17_R1_1.out (fun _ h => by cases h)
        go_simp
        exact hK _ _ _ hI (Step.refl hI) rfl
      · intro vs g w2 hI hF hR K hK
        simp only [Facts, fill, Act.put, z1, z2, z3, z4, z5, Nat.reduceAdd] at hF hR hK ⊢
        obtain ⟨r3, r4, -⟩ := hR
        generalize vs 3 = x3, vs 4 = x4 at *
        subst r3 r4
        go_simp
        refine (gBetween hI hw (by first | assumption | (unfold S; decide)) (by first | assumption | (unfold S; decide)) (by first | assumption | (unfold S; decide)) (by first | assumption | (unfold S; decide))).mono ?_
        rintro e w3 ⟨v3, rfl, hv, hb⟩
        exact hK _ _ _ (hI.call hb) (Step.call hI hb) hv
      · intro vs g w2 hI hF hR K hK
        simp only [Facts, fill, Act.put, z1, z2, z3, z4, z5, Nat.reduceAdd] at hF hR hK ⊢
        have k0 := hI.cell CR15_R1_0.out (fun _ h => by cases h)
        have k1 := hI.cell CR15_R1_1.out (fun _ h => by cases h)
        go_simp
        exact hK _ _ _ hI (Step.refl hI) rfl
      · intro vs g w2 hI hF hR K hK
        simp only [Facts, fill, Act.put, z1, z2, z3, z4, z5, Nat.reduceAdd] at hF hR hK ⊢
        have k0 := hI.cell CR17_R1_0.out (fun _ h => by cases h)
        have k1 := hI.cell CR17_R1_1.out (fun _ h => by cases h)
        go_simp
        exact hK _ _ _ hI (Step.refl hI) rfl
      · intro vs g w2 hI hF hR K hK
        simp only [Facts, fill, Act.put, z1, z2, z3, z4, z5, Nat.reduceAdd] at hF hR hK ⊢
        obtain ⟨r6, r7, -⟩ := hR
        generalize vs 6 = x6, vs 7 = x7 at *
        subst r6 r7
        go_simp
        refine (gBetween hI hw (by first | assumption | (unfold S; decide)) (by first | assumption | (unfold S; decide)) (by first | assumption | (unfold S; decide)) (by first | assumption | (unfold S; decide))).mono ?_
        rintro e w3 ⟨v3, rfl, hv, hb⟩
        exact hK _ _ _ (hI.call hb) (Step.call hI hb) hv
      · intro vs g w2 hI hF hR K hK
        simp only [Facts, fill, Act.put, z1, z2, z3, z4, z5, Nat.reduceAdd] at hF hR hK ⊢
        have k0 := hI.cell CR15_R1_0.out (fun _ h => by cases h)
        have k1 := hI.cell CR15_R1_1.out (fun _ h => by cases h)
        go_simp
        exact hK _ _ _ hI (Step.refl hI) rfl
      · intro vs g w2 hI hF hR K hK
        simp only [Facts, fill, Act.put, z1, z2, z3, z4, z5, Nat.reduceAdd] at hF hR hK ⊢
        have k0 := hI.cell CR18_R1_0.out (fun _ h => by cases h)
        have k1 := hI.cell CR18_R1_1.out (fun _ h => by cases h)
        go_simp
        exact hK _ _ _ hI (Step.refl hI) rfl
      · intro vs g w2 hI hF hR K hK
        simp only [Facts, fill, Act.put, z1, z2, z3, z4, z5, Nat.reduceAdd] at hF hR hK ⊢
        obtain ⟨r9, r10, -⟩ := hR
        generalize vs 9 = x9, vs 10 = x10 at *
        subst r9 r10
        go_simp
        refine (gBetween hI hw (by first | assumption | (unfold S; decide)) (by first | assumption | (unfold S; decide)) (by first | assumption | (unfold S; decide)) (by first | assumption | (unfold S; decide))).mono ?_
        rintro e w3 ⟨v3, rfl, hv, hb⟩
        exact hK _ _ _ (hI.call hb) (Step.call hI hb) hv
      · intro vs g w2 hI hF hR K hK
        simp only [Facts, fill, Act.put, z1, z2, z3, z4, z5, Nat.reduceAdd] at hF hR hK ⊢
        go_simp
        exact hK _ _ _ (hI.alloc _ (hF (by decide)) _) (Step.alloc hI (hF (by decide)) _) ⟨_, rfl, more_at _ _ _, box2' _ _ _ _⟩
      · intro vs g w2 hI hF hR K hK
        simp only [Facts, fill, Act.put, z1, z2, z3, z4, z5, Nat.reduceAdd] at hF hR hK ⊢
        go_simp
        exact hK _ _ _ (hI.alloc _ (hF (by decide)) _) (Step.alloc hI (hF (by decide)) _) ⟨_, rfl, more_at _ _ _, box2' _ _ _ _⟩
      · intro vs g w2 hI hF hR K hK
        simp only [Facts, fill, Act.put, z1, z2, z3, z4, z5, Nat.reduceAdd] at hF hR hK ⊢
        go_simp
        exact hK _ _ _ (hI.alloc _ (hF (by decide)) _) (Step.alloc hI (hF (by decide)) _) ⟨_, rfl, more_at _ _ _, box2' _ _ _ _⟩
      · intro vs g w2 hI hF hR K hK
        simp only [Facts, fill, Act.put, z1, z2, z3, z4, z5, Nat.reduceAdd] at hF hR hK ⊢
        go_simp
        exact hK _ _ _ (hI.alloc _ (hF (by decide)) _) (Step.alloc hI (hF (by decide)) _) ⟨_, rfl, more_at _ _ _, box2' _ _ _ _⟩
      · intro vs g w2 hI hF hR K hK
        simp only [Facts, fill, Act.put, z1, z2, z3, z4, z5, Nat.reduceAdd] at hF hR hK ⊢
        obtain ⟨r12, r2, -⟩ := hR
        generalize vs 12 = x12, vs 2 = x2 at *
        obtain ⟨k, rfl, hk, hbx⟩ := r12
        have qx := r2
        obtain ⟨A16, c16, B16, d16, rfl⟩ := vecL_open r2
        obtain ⟨⟨u0, k0⟩, f0⟩ := hbx 0 (by decide)
        obtain ⟨⟨u1, k1⟩, f1⟩ := hbx 1 (by decide)
        go_simp
        have ht := (((Touch.refl w2 k).set 0 (.slice A16 2 c16)).set 1 (.slice B16 2 d16))
        exact hK undef _ _ (hI.store (by decide) hk ht) (Step.store hI rfl hk ht) ⟨k, .agg #[.slice A16 2 c16, .slice B16 2 d16], hk, by rw [ht.size]; exact hI.lt _ _ hk, cells2 k0 k1 (.slice A16 2 c16) (.slice B16 2 d16), ((vecL_firm _ _) _ _ _ _ _ qx (ht.keeps hk))⟩
      · intro vs g w2 hI hF hR K hK
        simp only [Facts, fill, Act.put, z1, z2, z3, z4, z5, Nat.reduceAdd] at hF hR hK ⊢
        obtain ⟨r13, r5, -⟩ := hR
        generalize vs 13 = x13, vs 5 = x5 at *
        obtain ⟨k, rfl, hk, hbx⟩ := r13
        have qx := r5
        obtain ⟨A17, c17, B17, d17, rfl⟩ := vecL_open r5
        obtain ⟨⟨u0, k0⟩, f0⟩ := hbx 0 (by decide)
        obtain ⟨⟨u1, k1⟩, f1⟩ := hbx 1 (by decide)
        go_simp
        have ht := (((Touch.refl w2 k).set 0 (.slice A17 2 c17)).set 1 (.slice B17 2 d17))
        exact hK undef _ _ (hI.store (by decide) hk ht) (Step.store hI rfl hk ht) ⟨k, .agg #[.slice A17 2 c17, .slice B17 2 d17], hk, by rw [ht.size]; exact hI.lt _ _ hk, cells2 k0 k1 (.slice A17 2 c17) (.slice B17 2 d17), ((vecL_firm _ _) _ _ _ _ _ qx (ht.keeps hk))⟩
      · intro vs g w2 hI hF hR K hK
        simp only [Facts, fill, Act.put, z1, z2, z3, z4, z5, Nat.reduceAdd] at hF hR hK ⊢
        obtain ⟨r14, r8, -⟩ := hR
        generalize vs 14 = x14, vs 8 = x8 at *
        obtain ⟨k, rfl, hk, hbx⟩ := r14
        have qx := r8
        obtain ⟨A18, c18, B18, d18, rfl⟩ := vecL_open r8
        obtain ⟨⟨u0, k0⟩, f0⟩ := hbx 0 (by decide)
        obtain ⟨⟨u1, k1⟩, f1⟩ := hbx 1 (by decide)
        go_simp
        have ht := (((Touch.refl w2 k).set 0 (.slice A18 2 c18)).set 1 (.slice B18 2 d18))
        exact hK undef _ _ (hI.store (by decide) hk ht) (Step.store hI rfl hk ht) ⟨k, .agg #[.slice A18 2 c18, .slice B18 2 d18], hk, by rw [ht.size]; exact hI.lt _ _ hk, cells2 k0 k1 (.slice A18 2 c18) (.slice B18 2 d18), ((vecL_firm _ _) _ _ _ _ _ qx (ht.keeps hk))⟩
      · intro vs g w2 hI hF hR K hK
        simp only [Facts, fill, Act.put, z1, z2, z3, z4, z5, Nat.reduceAdd] at hF hR hK ⊢
        obtain ⟨r15, r11, -⟩ := hR
        generalize vs 15 = x15, vs 11 = x11 at *
        obtain ⟨k, rfl, hk, hbx⟩ := r15
        have qx := r11
        obtain ⟨A19, c19, B19, d19, rfl⟩ := vecL_open r11
        obtain ⟨⟨u0, k0⟩, f0⟩ := hbx 0 (by decide)
        obtain ⟨⟨u1, k1⟩, f1⟩ := hbx 1 (by decide)
        go_simp
        have ht := (((Touch.refl w2 k).set 0 (.slice A19 2 c19)).set 1 (.slice B19 2 d19))
        exact hK undef _ _ (hI.store (by decide) hk ht) (Step.store hI rfl hk ht) ⟨k, .agg #[.slice A19 2 c19, .slice B19 2 d19], hk, by rw [ht.size]; exact hI.lt _ _ hk, cells2 k0 k1 (.slice A19 2 c19) (.slice B19 2 d19), ((vecL_firm _ _) _ _ _ _ _ qx (ht.keeps hk))⟩
    case fin =>
      intro vs g wR2 hI hR
      have r12 := hR 12 (by decide)
      have r13 := hR 13 (by decide)
      have r14 := hR 14 (by decide)
      have r15 := hR 15 (by decide)
      have r16 := hR 16 (by decide)
      have r17 := hR 17 (by decide)
      have r18 := hR 18 (by decide)
      have r19 := hR 19 (by decide)
      simp only [fill, Act.put, z1, z2, z3, z4, z5] at r12 r13 r14 r15 r16 r17 r18 r19 ⊢
      clear hR
      generalize vs 12 = x12 at *
      generalize vs 13 = x13 at *
      generalize vs 14 = x14 at *
      generalize vs 15 = x15 at *
      generalize vs 16 = x16 at *
      generalize vs 17 = x17 at *
      generalize vs 18 = x18 at *
      generalize vs 19 = x19 at *
      have Cab_R2_0 := Lib.hid (hI.cell Cab_R1_0.out (fun _ h => by cases h))
      have Cab_R2_1 := Lib.hid (hI.cell Cab_R1_1.out (fun _ h => by cases h))
      have Cab_R2_2 := Lib.hid (hI.cell Cab_R1_2.out (fun _ h => by cases h))
      have Cab_R2_3 := Lib.hid (hI.cell Cab_R1_3.out (fun _ h => by cases h))
      have Ccd_R2_0 := Lib.hid (hI.cell Ccd_R1_0.out (fun _ h => by cases h))
      have Ccd_R2_1 := Lib.hid (hI.cell Ccd_R1_1.out (fun _ h => by cases h))
      have Ccd_R2_2 := Lib.hid (hI.cell Ccd_R1_2.out (fun _ h => by cases h))
      have Ccd_R2_3 := Lib.hid (hI.cell Ccd_R1_3.out (fun _ h => by cases h))
      have CR15_R2_0 := Lib.hid (hI.cell CR15_R1_0.out (fun _ h => by cases h))
      have CR15_R2_1 := Lib.hid (hI.cell CR15_R1_1.out (fun _ h => by cases h))
      have CR16_R2_0 := Lib.hid (hI.cell CR16_R1_0.out (fun _ h => by cases h))
      have CR16_R2_1 := Lib.hid (hI.cell CR16_R1_1.out (fun _ h => by cases h))
      have CR17_R2_0 := Lib.hid (hI.cell CR17_R1_0.out (fun _ h => by cases h))
      have CR17_R2_1 := Lib.hid (hI.cell CR17_R1_1.out (fun _ h => by cases h))
      have CR18_R2_0 := Lib.hid (hI.cell CR18_R1_0.out (fun _ h => by cases h))
      have CR18_R2_1 := Lib.hid (hI.cell CR18_R1_1.out (fun _ h => by cases h))
      obtain ⟨pR29, rfl, hkR29, -⟩ := r12
      obtain ⟨qR29, uR29, hqR29, -, hcR29, hrR29⟩ := r16
      rw [hkR29] at hqR29
      injection hqR29 with hqR29
      subst hqR29
      have qfR29 := hrR29
      obtain ⟨AvR29, cvR29, BvR29, dvR29, rfl⟩ := vecL_open hrR29
      have FR29_R2_0 := Lib.hid ((vecL_firm _ _) _ _ _ _ _ qfR29 hI.back)
      clear qfR29
      have FR29_R2_1 := Lib.hid (vecL_x FR29_R2_0.out)
      have FR29_R2_2 := Lib.hid (vecL_y FR29_R2_0.out)
      have CR29_R2_0 := Lib.hid (hcR29 0 _ rfl)
      have CR29_R2_1 := Lib.hid (hcR29 1 _ rfl)
      clear hcR29 hkR29
      obtain ⟨pR210, rfl, hkR210, -⟩ := r13
      obtain ⟨qR210, uR210, hqR210, -, hcR210, hrR210⟩ := r17
      rw [hkR210] at hqR210
      injection hqR210 with hqR210
      subst hqR210
      have qfR210 := hrR210
      obtain ⟨AvR210, cvR210, BvR210, dvR210, rfl⟩ := vecL_open hrR210
      have FR210_R2_0 := Lib.hid ((vecL_firm _ _) _ _ _ _ _ qfR210 hI.back)
      clear qfR210
      have FR210_R2_1 := Lib.hid (vecL_x FR210_R2_0.out)
      have FR210_R2_2 := Lib.hid (vecL_y FR210_R2_0.out)
      have CR210_R2_0 := Lib.hid (hcR210 0 _ rfl)
      have CR210_R2_1 := Lib.hid (hcR210 1 _ rfl)
      clear hcR210 hkR210
      obtain ⟨pR211, rfl, hkR211, -⟩ := r14
      obtain ⟨qR211, uR211, hqR211, -, hcR211, hrR211⟩ := r18
      rw [hkR211] at hqR211
      injection hqR211 with hqR211
      subst hqR211
      have qfR211 := hrR211
      obtain ⟨AvR211, cvR211, BvR211, dvR211, rfl⟩ := vecL_open hrR211
      have FR211_R2_0 := Lib.hid ((vecL_firm _ _) _ _ _ _ _ qfR211 hI.back)
      clear qfR211
      have FR211_R2_1 := Lib.hid (vecL_x FR211_R2_0.out)
      have FR211_R2_2 := Lib.hid (vecL_y FR211_R2_0.out)
      have CR211_R2_0 := Lib.hid (hcR211 0 _ rfl)
      have CR211_R2_1 := Lib.hid (hcR211 1 _ rfl)
      clear hcR211 hkR211
      obtain ⟨pR212, rfl, hkR212, -⟩ := r15
      obtain ⟨qR212, uR212, hqR212, -, hcR212, hrR212⟩ := r19
      rw [hkR212] at hqR212
      injection hqR212 with hqR212
      subst hqR212
      have qfR212 := hrR212
      obtain ⟨AvR212, cvR212, BvR212, dvR212, rfl⟩ := vecL_open hrR212
      have FR212_R2_0 := Lib.hid ((vecL_firm _ _) _ _ _ _ _ qfR212 hI.back)
      clear qfR212
      have FR212_R2_1 := Lib.hid (vecL_x FR212_R2_0.out)
      have FR212_R2_2 := Lib.hid (vecL_y FR212_R2_0.out)
      have CR212_R2_0 := Lib.hid (hcR212 0 _ rfl)
      have CR212_R2_1 := Lib.hid (hcR212 1 _ rfl)
      clear hcR212 hkR212
      have hBR2 := hI.below
      have HCR2 := hI.next HCR1
      clear hI
      go_upto_region 3 with (fail)
      refine box_plan (c := ⟨w, wR2, (fun _ => none)⟩) HCR2 (by kernel_rfl) [[], [], [(37, 0), (38, 1)], [], [], [(40, 3), (41, 4)], [], [], [(43, 6), (44, 7)], [(39, 2)], [(42, 5)], [(45, 8)]] [(37, 0), (38, 1), (39, 2), (40, 3), (41, 4), (42, 5), (43, 6), (44, 7), (45, 8), (13, 9), (14, 10), (15, 11)] [
          (fun v _ _ => v = .agg #[.slice AvR29 2 cvR29, .slice BvR29 2 dvR29]),
          (fun v _ _ => v = .agg #[.slice AvR212 2 cvR212, .slice BvR212 2 dvR212]),
          LimR 4 ((xb - xa) * (yd - ya) - (yb - ya) * (xd - xa)),
          (fun v _ _ => v = .agg #[.slice AvR210 2 cvR210, .slice BvR210 2 dvR210]),
          (fun v _ _ => v = .agg #[.slice AvR212 2 cvR212, .slice BvR212 2 dvR212]),
          LimR 4 ((xc - xb) * (yd - ya) - (yc - yb) * (xd - xa)),
          (fun v _ _ => v = .agg #[.slice AvR211 2 cvR211, .slice BvR211 2 dvR211]),
          (fun v _ _ => v = .agg #[.slice AvR212 2 cvR212, .slice BvR212 2 dvR212]),
          LimR 4 ((xc - xa) * (yd - ya) - (yc - ya) * (xd - xa)),
          LimR 4 ((xb - xa) * (yd - ya) - (yb - ya) * (xd - xa)),
          LimR 4 ((xc - xb) * (yd - ya) - (yc - yb) * (xd - xa)),
          LimR 4 ((xc - xa) * (yd - ya) - (yc - ya) * (xd - xa))
        ] (fun _ => none) (by kernel_rfl) (by kernel_rfl) ⟨stab_eq, stab_eq, stab_firm (limR_firm _ _), stab_eq, stab_eq, stab_firm (limR_firm _ _), stab_eq, stab_eq, stab_firm (limR_firm _ _), stab_firm (limR_firm _ _), stab_firm (limR_firm _ _), stab_firm (limR_firm _ _), trivial⟩ ?steps ?fin
      case steps =>
        refine ⟨?_, ?_, ?_, ?_, ?_, ?_, ?_, ?_, ?_, ?_, ?_, ?_, trivial⟩
        · intro vs g w2 hI hF hR K hK
          simp only [Facts, fill, Act.put, z1, z2, z3, z4, z5, Nat.reduceAdd] at hF hR hK ⊢
          have k0 := hI.cell CR29_R2_0.out (fun _ h => by cases h)
          have k1 := hI.cell CR29_R2_1.out (fun _ h => by cases h)
          go_simp
          exact hK _ _ _ hI (Step.refl hI) rfl
        · intro vs g w2 hI hF hR K hK
          simp only [Facts, fill, Act.put, z1, z2, z3, z4, z5, Nat.reduceAdd] at hF hR hK ⊢
          have k0 := hI.cell CR212_R2_0.out (fun _ h => by cases h)
          have k1 := hI.cell CR212_R2_1.out (fun _ h => by cases h)
          go_simp
          exact hK _ _ _ hI (Step.refl hI) rfl
        · intro vs g w2 hI hF hR K hK
          simp only [Facts, fill, Act.put, z1, z2, z3, z4, z5, Nat.reduceAdd] at hF hR hK ⊢
          obtain ⟨r0, r1, -⟩ := hR
          generalize vs 0 = x0, vs 1 = x1 at *
          subst r0 r1
          go_simp
          refine (gCross hI hw ((vecL_firm _ _) _ _ _ _ _ FR29_R2_0.out hI.keeps) ((vecL_firm _ _) _ _ _ _ _ FR212_R2_0.out hI.keeps) (by first | exact HE0.out | exact HE1.out | exact HE2.out | exact HE3.out | exact Fit.sv (by repeat first | exact S.diff (by first | assumption | (unfold S; decide)) (by first | assumption | (unfold S; decide)) | apply Fit.neg | (unfold Fit; decide +kernel))) (by first | exact HE0.out | exact HE1.out | exact HE2.out | exact HE3.out | exact Fit.sv (by repeat first | exact S.diff (by first | assumption | (unfold S; decide)) (by first | assumption | (unfold S; decide)) | apply Fit.neg | (unfold Fit; decide +kernel))) (by first | exact HE0.out | exact HE1.out | exact HE2.out | exact HE3.out | exact Fit.sv (by repeat first | exact S.diff (by first | assumption | (unfold S; decide)) (by first | assumption | (unfold S; decide)) | apply Fit.neg | (unfold Fit; decide +kernel))) (by first | exact HE0.out | exact HE1.out | exact HE2.out | exact HE3.out | exact Fit.sv (by repeat first | exact S.diff (by first | assumption | (unfold S; decide)) (by first | assumption | (unfold S; decide)) | apply Fit.neg | (unfold Fit; decide +kernel)))).mono ?_
          rintro e w3 ⟨v3, rfl, hv, hb⟩
          exact hK _ _ _ (hI.call hb) (Step.call hI hb) hv
        · intro vs g w2 hI hF hR K hK
          simp only [Facts, fill, Act.put, z1, z2, z3, z4, z5, Nat.reduceAdd] at hF hR hK ⊢
          have k0 := hI.cell CR210_R2_0.out (fun _ h => by cases h)
          have k1 := hI.cell CR210_R2_1.out (fun _ h => by cases h)
          go_simp
          exact hK _ _ _ hI (Step.refl hI) rfl
        · intro vs g w2 hI hF hR K hK
          simp only [Facts, fill, Act.put, z1, z2, z3, z4, z5, Nat.reduceAdd] at hF hR hK ⊢
          have k0 := hI.cell CR212_R2_0.out (fun _ h => by cases h)
          have k1 := hI.cell CR212_R2_1.out (fun _ h => by cases h)
          go_simp
          exact hK _ _ _ hI (Step.refl hI) rfl
        · intro vs g w2 hI hF hR K hK
          simp only [Facts, fill, Act.put, z1, z2, z3, z4, z5, Nat.reduceAdd] at hF hR hK ⊢
          obtain ⟨r3, r4, -⟩ := hR
          generalize vs 3 = x3, vs 4 = x4 at *
          subst r3 r4
          go_simp
          refine (gCross hI hw ((vecL_firm _ _) _ _ _ _ _ FR210_R2_0.out hI.keeps) ((vecL_firm _ _) _ _ _ _ _ FR212_R2_0.out hI.keeps) (by first | exact HE0.out | exact HE1.out | exact HE2.out | exact HE3.out | exact Fit.sv (by repeat first | exact S.diff (by first | assumption | (unfold S; decide)) (by first | assumption | (unfold S; decide)) | apply Fit.neg | (unfold Fit; decide +kernel))) (by first | exact HE0.out | exact HE1.out | exact HE2.out | exact HE3.out | exact Fit.sv (by repeat first | exact S.diff (by first | assumption | (unfold S; decide)) (by first | assumption | (unfold S; decide)) | apply Fit.neg | (unfold Fit; decide +kernel))) (by first | exact HE0.out | exact HE1.out | exact HE2.out | exact HE3.out | exact Fit.sv (by repeat first | exact S.diff (by first | assumption | (unfold S; decide)) (by first | assumption | (unfold S; decide)) | apply Fit.neg | (unfold Fit; decide +kernel))) (by first | exact HE0.out | exact HE1.out | exact HE2.out | exact HE3.out | exact Fit.sv (by repeat first | exact S.diff (by first | assumption | (unfold S; decide)) (by first | assumption | (unfold S; decide)) | apply Fit.neg | (unfold Fit; decide +kernel)))).mono ?_
          rintro e w3 ⟨v3, rfl, hv, hb⟩
          exact hK _ _ _ (hI.call hb) (Step.call hI hb) hv
        · intro vs g w2 hI hF hR K hK
          simp only [Facts, fill, Act.put, z1, z2, z3, z4, z5, Nat.reduceAdd] at hF hR hK ⊢
          have k0 := hI.cell CR211_R2_0.out (fun _ h => by cases h)
          have k1 := hI.cell CR211_R2_1.out (fun _ h => by cases h)
          go_simp
          exact hK _ _ _ hI (Step.refl hI) rfl
        · intro vs g w2 hI hF hR K hK
          simp only [Facts, fill, Act.put, z1, z2, z3, z4, z5, Nat.reduceAdd] at hF hR hK ⊢
          have k0 := hI.cell CR212_R2_0.out (fun _ h => by cases h)
          have k1 := hI.cell CR212_R2_1.out (fun _ h => by cases h)
          go_simp
          exact hK _ _ _ hI (Step.refl hI) rfl
        · intro vs g w2 hI hF hR K hK
          simp only [Facts, fill, Act.put, z1, z2, z3, z4, z5, Nat.reduceAdd] at hF hR hK ⊢
          obtain ⟨r6, r7, -⟩ := hR
          generalize vs 6 = x6, vs 7 = x7 at *
          subst r6 r7
          go_simp
          refine (gCross hI hw ((vecL_firm _ _) _ _ _ _ _ FR211_R2_0.out hI.keeps) ((vecL_firm _ _) _ _ _ _ _ FR212_R2_0.out hI.keeps) (by first | exact HE0.out | exact HE1.out | exact HE2.out | exact HE3.out | exact Fit.sv (by repeat first | exact S.diff (by first | assumption | (unfold S; decide)) (by first | assumption | (unfold S; decide)) | apply Fit.neg | (unfold Fit; decide +kernel))) (by first | exact HE0.out | exact HE1.out | exact HE2.out | exact HE3.out | exact Fit.sv (by repeat first | exact S.diff (by first | assumption | (unfold S; decide)) (by first | assumption | (unfold S; decide)) | apply Fit.neg | (unfold Fit; decide +kernel))) (by first | exact HE0.out | exact HE1.out | exact HE2.out | exact HE3.out | exact Fit.sv (by repeat first | exact S.diff (by first | assumption | (unfold S; decide)) (by first | assumption | (unfold S; decide)) | apply Fit.neg | (unfold Fit; decide +kernel))) (by first | exact HE0.out | exact HE1.out | exact HE2.out | exact HE3.out | exact Fit.sv (by repeat first | exact S.diff (by first | assumption | (unfold S; decide)) (by first | assumption | (unfold S; decide)) | apply Fit.neg | (unfold Fit; decide +kernel)))).mono ?_
          rintro e w3 ⟨v3, rfl, hv, hb⟩
          exact hK _ _ _ (hI.call hb) (Step.call hI hb) hv
        · intro vs g w2 hI hF hR K hK
          simp only [Facts, fill, Act.put, z1, z2, z3, z4, z5, Nat.reduceAdd] at hF hR hK ⊢
          obtain ⟨r2, -⟩ := hR
          generalize vs 2 = x2 at *
          go_simp
          exact hK _ _ _ hI (Step.refl hI) r2
        · intro vs g w2 hI hF hR K hK
          simp only [Facts, fill, Act.put, z1, z2, z3, z4, z5, Nat.reduceAdd] at hF hR hK ⊢
          obtain ⟨r5, -⟩ := hR
          generalize vs 5 = x5 at *
          go_simp
          exact hK _ _ _ hI (Step.refl hI) r5
        · intro vs g w2 hI hF hR K hK
          simp only [Facts, fill, Act.put, z1, z2, z3, z4, z5, Nat.reduceAdd] at hF hR hK ⊢
          obtain ⟨r8, -⟩ := hR
          generalize vs 8 = x8 at *
          go_simp
          exact hK _ _ _ hI (Step.refl hI) r8
      case fin =>
        intro vs g wR3 hI hR
        have r9 := hR 9 (by decide)
        have r10 := hR 10 (by decide)
        have r11 := hR 11 (by decide)
        simp only [fill, Act.put, z1, z2, z3, z4, z5] at r9 r10 r11 ⊢
        clear hR
        generalize vs 9 = x9 at *
        generalize vs 10 = x10 at *
        generalize vs 11 = x11 at *
        have Cab_R3_0 := Lib.hid (hI.cell Cab_R2_0.out (fun _ h => by cases h))
        have Cab_R3_1 := Lib.hid (hI.cell Cab_R2_1.out (fun _ h => by cases h))
        have Cab_R3_2 := Lib.hid (hI.cell Cab_R2_2.out (fun _ h => by cases h))
        have Cab_R3_3 := Lib.hid (hI.cell Cab_R2_3.out (fun _ h => by cases h))
        have Ccd_R3_0 := Lib.hid (hI.cell Ccd_R2_0.out (fun _ h => by cases h))
        have Ccd_R3_1 := Lib.hid (hI.cell Ccd_R2_1.out (fun _ h => by cases h))
        have Ccd_R3_2 := Lib.hid (hI.cell Ccd_R2_2.out (fun _ h => by cases h))
        have Ccd_R3_3 := Lib.hid (hI.cell Ccd_R2_3.out (fun _ h => by cases h))
        have CR15_R3_0 := Lib.hid (hI.cell CR15_R2_0.out (fun _ h => by cases h))
        have CR15_R3_1 := Lib.hid (hI.cell CR15_R2_1.out (fun _ h => by cases h))
        have CR16_R3_0 := Lib.hid (hI.cell CR16_R2_0.out (fun _ h => by cases h))
        have CR16_R3_1 := Lib.hid (hI.cell CR16_R2_1.out (fun _ h => by cases h))
        have CR17_R3_0 := Lib.hid (hI.cell CR17_R2_0.out (fun _ h => by cases h))
        have CR17_R3_1 := Lib.hid (hI.cell CR17_R2_1.out (fun _ h => by cases h))
        have CR18_R3_0 := Lib.hid (hI.cell CR18_R2_0.out (fun _ h => by cases h))
        have CR18_R3_1 := Lib.hid (hI.cell CR18_R2_1.out (fun _ h => by cases h))
        have CR29_R3_0 := Lib.hid (hI.cell CR29_R2_0.out (fun _ h => by cases h))
        have CR29_R3_1 := Lib.hid (hI.cell CR29_R2_1.out (fun _ h => by cases h))
        have FR29_R3_0 := Lib.hid ((vecL_firm _ _) _ _ _ _ _ FR29_R2_0.out hI.carry)
        have FR29_R3_1 := Lib.hid ((limR_firm _ _) _ _ _ _ _ FR29_R2_1.out hI.carry)
        have FR29_R3_2 := Lib.hid ((limR_firm _ _) _ _ _ _ _ FR29_R2_2.out hI.carry)
        have CR210_R3_0 := Lib.hid (hI.cell CR210_R2_0.out (fun _ h => by cases h))
        have CR210_R3_1 := Lib.hid (hI.cell CR210_R2_1.out (fun _ h => by cases h))
        have FR210_R3_0 := Lib.hid ((vecL_firm _ _) _ _ _ _ _ FR210_R2_0.out hI.carry)
        have FR210_R3_1 := Lib.hid ((limR_firm _ _) _ _ _ _ _ FR210_R2_1.out hI.carry)
        have FR210_R3_2 := Lib.hid ((limR_firm _ _) _ _ _ _ _ FR210_R2_2.out hI.carry)
        have CR211_R3_0 := Lib.hid (hI.cell CR211_R2_0.out (fun _ h => by cases h))
        have CR211_R3_1 := Lib.hid (hI.cell CR211_R2_1.out (fun _ h => by cases h))
        have FR211_R3_0 := Lib.hid ((vecL_firm _ _) _ _ _ _ _ FR211_R2_0.out hI.carry)
        have FR211_R3_1 := Lib.hid ((limR_firm _ _) _ _ _ _ _ FR211_R2_1.out hI.carry)
        have FR211_R3_2 := Lib.hid ((limR_firm _ _) _ _ _ _ _ FR211_R2_2.out hI.carry)
        have CR212_R3_0 := Lib.hid (hI.cell CR212_R2_0.out (fun _ h => by cases h))
        have CR212_R3_1 := Lib.hid (hI.cell CR212_R2_1.out (fun _ h => by cases h))
        have FR212_R3_0 := Lib.hid ((vecL_firm _ _) _ _ _ _ _ FR212_R2_0.out hI.carry)
        have FR212_R3_1 := Lib.hid ((limR_firm _ _) _ _ _ _ _ FR212_R2_1.out hI.carry)
        have FR212_R3_2 := Lib.hid ((limR_firm _ _) _ _ _ _ _ FR212_R2_2.out hI.carry)
        have qfR313 := r9
        obtain ⟨AvR313, cvR313, rfl⟩ := limR_open r9
        have FR313_R3_0 := Lib.hid ((limR_firm _ _) _ _ _ _ _ qfR313 hI.back)
        clear qfR313
        have qfR314 := r10
        obtain ⟨AvR314, cvR314, rfl⟩ := limR_open r10
        have FR314_R3_0 := Lib.hid ((limR_firm _ _) _ _ _ _ _ qfR314 hI.back)
        clear qfR314
        have qfR315 := r11
        obtain ⟨AvR315, cvR315, rfl⟩ := limR_open r11
        have FR315_R3_0 := Lib.hid ((limR_firm _ _) _ _ _ _ _ qfR315 hI.back)
        clear qfR315
        have hBR3 := hI.below
        have HCR3 := hI.next HCR2
        clear hI
        go_upto_region 4 with (fail)
        refine box_plan0 (c := ⟨w, wR3, (fun _ => none)⟩) HCR3 [[], [(46, 0)], [(47, 1)], [(48, 2)], [(49, 3)], [(49, 3), (50, 4)], [(49, 3), (51, 5)], [(49, 3), (52, 6)], [(53, 7)], [(54, 8)], [(54, 8), (55, 9)], [(54, 8), (56, 10)], [(54, 8), (57, 11)]] [(46, 0), (47, 1), (48, 2), (49, 3), (50, 4), (51, 5), (52, 6), (53, 7), (54, 8), (55, 9), (56, 10), (57, 11), (58, 12)] [
            (fun v _ _ => v = .slice AvR313 4 cvR313),
            (fun v _ _ => v = .int .i64 4),
            (fun v _ _ => v = .bool false),
            (fun v _ _ => v = .bool false),
            (fun v _ _ => v = .slice AvR314 4 cvR314),
            (fun v _ _ => v = .int .i64 4),
            (fun v _ _ => v = .bool false),
            (fun v _ _ => v = .bool false),
            (fun v _ _ => v = .bool false),
            (fun v _ _ => v = .slice AvR315 4 cvR315),
            (fun v _ _ => v = .int .i64 4),
            (fun v _ _ => v = .bool false),
            (fun v _ _ => v = .bool false)
          ] (fun _ => none) (by kernel_rfl) (by kernel_rfl) ⟨stab_eq, stab_eq, stab_eq, stab_eq, stab_eq, stab_eq, stab_eq, stab_eq, stab_eq, stab_eq, stab_eq, stab_eq, stab_eq, trivial⟩ ?steps ?fin
        case steps =>
          refine ⟨?_, ?_, ?_, ?_, ?_, ?_, ?_, ?_, ?_, ?_, ?_, ?_, ?_, trivial⟩
          · intro vs g w2 hI hF hR K hK
            simp only [Facts, fill, Act.put, z1, z2, z3, z4, z5, Nat.reduceAdd] at hF hR hK ⊢
            go_simp
            exact hK _ _ _ hI (Step.refl hI) rfl
          · intro vs g w2 hI hF hR K hK
            simp only [Facts, fill, Act.put, z1, z2, z3, z4, z5, Nat.reduceAdd] at hF hR hK ⊢
            obtain ⟨r0, -⟩ := hR
            generalize vs 0 = x0 at *
            subst r0
            go_simp
            exact hK _ _ _ hI (Step.refl hI) rfl
          · intro vs g w2 hI hF hR K hK
            simp only [Facts, fill, Act.put, z1, z2, z3, z4, z5, Nat.reduceAdd] at hF hR hK ⊢
            obtain ⟨r1, -⟩ := hR
            generalize vs 1 = x1 at *
            subst r1
            go_simp
            exact hK _ _ _ hI (Step.refl hI) rfl
          · intro vs g w2 hI hF hR K hK
            simp only [Facts, fill, Act.put, z1, z2, z3, z4, z5, Nat.reduceAdd] at hF hR hK ⊢
            obtain ⟨r2, -⟩ := hR
            generalize vs 2 = x2 at *
            subst r2
            go_simp
            exact hK _ _ _ hI (Step.refl hI) rfl
          · intro vs g w2 hI hF hR K hK
            simp only [Facts, fill, Act.put, z1, z2, z3, z4, z5, Nat.reduceAdd] at hF hR hK ⊢
            obtain ⟨r3, -⟩ := hR
            generalize vs 3 = x3 at *
            subst r3
            go_simp
            exact hK _ _ _ hI (Step.refl hI) rfl
          · intro vs g w2 hI hF hR K hK
            simp only [Facts, fill, Act.put, z1, z2, z3, z4, z5, Nat.reduceAdd] at hF hR hK ⊢
            obtain ⟨r3, r4, -⟩ := hR
            generalize vs 3 = x3, vs 4 = x4 at *
            subst r3 r4
            go_simp
            exact hK _ _ _ hI (Step.refl hI) rfl
          · intro vs g w2 hI hF hR K hK
            simp only [Facts, fill, Act.put, z1, z2, z3, z4, z5, Nat.reduceAdd] at hF hR hK ⊢
            obtain ⟨r3, r5, -⟩ := hR
            generalize vs 3 = x3, vs 5 = x5 at *
            subst r3 r5
            go_simp
            exact hK _ _ _ hI (Step.refl hI) rfl
          · intro vs g w2 hI hF hR K hK
            simp only [Facts, fill, Act.put, z1, z2, z3, z4, z5, Nat.reduceAdd] at hF hR hK ⊢
            obtain ⟨r3, r6, -⟩ := hR
            generalize vs 3 = x3, vs 6 = x6 at *
            subst r3 r6
            go_simp
            exact hK _ _ _ hI (Step.refl hI) rfl
          · intro vs g w2 hI hF hR K hK
            simp only [Facts, fill, Act.put, z1, z2, z3, z4, z5, Nat.reduceAdd] at hF hR hK ⊢
            obtain ⟨r7, -⟩ := hR
            generalize vs 7 = x7 at *
            subst r7
            go_simp
            exact hK _ _ _ hI (Step.refl hI) rfl
          · intro vs g w2 hI hF hR K hK
            simp only [Facts, fill, Act.put, z1, z2, z3, z4, z5, Nat.reduceAdd] at hF hR hK ⊢
            obtain ⟨r8, -⟩ := hR
            generalize vs 8 = x8 at *
            subst r8
            go_simp
            exact hK _ _ _ hI (Step.refl hI) rfl
          · intro vs g w2 hI hF hR K hK
            simp only [Facts, fill, Act.put, z1, z2, z3, z4, z5, Nat.reduceAdd] at hF hR hK ⊢
            obtain ⟨r8, r9, -⟩ := hR
            generalize vs 8 = x8, vs 9 = x9 at *
            subst r8 r9
            go_simp
            exact hK _ _ _ hI (Step.refl hI) rfl
          · intro vs g w2 hI hF hR K hK
            simp only [Facts, fill, Act.put, z1, z2, z3, z4, z5, Nat.reduceAdd] at hF hR hK ⊢
            obtain ⟨r8, r10, -⟩ := hR
            generalize vs 8 = x8, vs 10 = x10 at *
            subst r8 r10
            go_simp
            exact hK _ _ _ hI (Step.refl hI) rfl
          · intro vs g w2 hI hF hR K hK
            simp only [Facts, fill, Act.put, z1, z2, z3, z4, z5, Nat.reduceAdd] at hF hR hK ⊢
            obtain ⟨r8, r11, -⟩ := hR
            generalize vs 8 = x8, vs 11 = x11 at *
            subst r8 r11
            go_simp
            exact hK _ _ _ hI (Step.refl hI) rfl
        case fin =>
          intro vs g wR4 hI hR
          have r12 := hR 12 (by decide)
          simp only [fill, Act.put, z1, z2, z3, z4, z5] at r12 ⊢
          clear hR
          generalize vs 12 = x12 at *
          have Cab_R4_0 := Lib.hid (hI.cell Cab_R3_0.out (fun _ h => by cases h))
          have Cab_R4_1 := Lib.hid (hI.cell Cab_R3_1.out (fun _ h => by cases h))
          have Cab_R4_2 := Lib.hid (hI.cell Cab_R3_2.out (fun _ h => by cases h))
          have Cab_R4_3 := Lib.hid (hI.cell Cab_R3_3.out (fun _ h => by cases h))
          have Ccd_R4_0 := Lib.hid (hI.cell Ccd_R3_0.out (fun _ h => by cases h))
          have Ccd_R4_1 := Lib.hid (hI.cell Ccd_R3_1.out (fun _ h => by cases h))
          have Ccd_R4_2 := Lib.hid (hI.cell Ccd_R3_2.out (fun _ h => by cases h))
          have Ccd_R4_3 := Lib.hid (hI.cell Ccd_R3_3.out (fun _ h => by cases h))
          have CR15_R4_0 := Lib.hid (hI.cell CR15_R3_0.out (fun _ h => by cases h))
          have CR15_R4_1 := Lib.hid (hI.cell CR15_R3_1.out (fun _ h => by cases h))
          have CR16_R4_0 := Lib.hid (hI.cell CR16_R3_0.out (fun _ h => by cases h))
          have CR16_R4_1 := Lib.hid (hI.cell CR16_R3_1.out (fun _ h => by cases h))
          have CR17_R4_0 := Lib.hid (hI.cell CR17_R3_0.out (fun _ h => by cases h))
          have CR17_R4_1 := Lib.hid (hI.cell CR17_R3_1.out (fun _ h => by cases h))
          have CR18_R4_0 := Lib.hid (hI.cell CR18_R3_0.out (fun _ h => by cases h))
          have CR18_R4_1 := Lib.hid (hI.cell CR18_R3_1.out (fun _ h => by cases h))
          have CR29_R4_0 := Lib.hid (hI.cell CR29_R3_0.out (fun _ h => by cases h))
          have CR29_R4_1 := Lib.hid (hI.cell CR29_R3_1.out (fun _ h => by cases h))
          have FR29_R4_0 := Lib.hid ((vecL_firm _ _) _ _ _ _ _ FR29_R3_0.out hI.carry)
          have FR29_R4_1 := Lib.hid ((limR_firm _ _) _ _ _ _ _ FR29_R3_1.out hI.carry)
          have FR29_R4_2 := Lib.hid ((limR_firm _ _) _ _ _ _ _ FR29_R3_2.out hI.carry)
          have CR210_R4_0 := Lib.hid (hI.cell CR210_R3_0.out (fun _ h => by cases h))
          have CR210_R4_1 := Lib.hid (hI.cell CR210_R3_1.out (fun _ h => by cases h))
          have FR210_R4_0 := Lib.hid ((vecL_firm _ _) _ _ _ _ _ FR210_R3_0.out hI.carry)
          have FR210_R4_1 := Lib.hid ((limR_firm _ _) _ _ _ _ _ FR210_R3_1.out hI.carry)
          have FR210_R4_2 := Lib.hid ((limR_firm _ _) _ _ _ _ _ FR210_R3_2.out hI.carry)
          have CR211_R4_0 := Lib.hid (hI.cell CR211_R3_0.out (fun _ h => by cases h))
          have CR211_R4_1 := Lib.hid (hI.cell CR211_R3_1.out (fun _ h => by cases h))
          have FR211_R4_0 := Lib.hid ((vecL_firm _ _) _ _ _ _ _ FR211_R3_0.out hI.carry)
          have FR211_R4_1 := Lib.hid ((limR_firm _ _) _ _ _ _ _ FR211_R3_1.out hI.carry)
          have FR211_R4_2 := Lib.hid ((limR_firm _ _) _ _ _ _ _ FR211_R3_2.out hI.carry)
          have CR212_R4_0 := Lib.hid (hI.cell CR212_R3_0.out (fun _ h => by cases h))
          have CR212_R4_1 := Lib.hid (hI.cell CR212_R3_1.out (fun _ h => by cases h))
          have FR212_R4_0 := Lib.hid ((vecL_firm _ _) _ _ _ _ _ FR212_R3_0.out hI.carry)
          have FR212_R4_1 := Lib.hid ((limR_firm _ _) _ _ _ _ _ FR212_R3_1.out hI.carry)
          have FR212_R4_2 := Lib.hid ((limR_firm _ _) _ _ _ _ _ FR212_R3_2.out hI.carry)
          have FR313_R4_0 := Lib.hid ((limR_firm _ _) _ _ _ _ _ FR313_R3_0.out hI.carry)
          have FR314_R4_0 := Lib.hid ((limR_firm _ _) _ _ _ _ _ FR314_R3_0.out hI.carry)
          have FR315_R4_0 := Lib.hid ((limR_firm _ _) _ _ _ _ _ FR315_R3_0.out hI.carry)
          subst r12
          have hBR4 := hI.below
          have HCR4 := hI.next HCR3
          clear hI
          go_upto_region 6 with (fail)
          refine box_plan0 (c := ⟨w, wR4, (fun _ => none)⟩) HCR4 [[], [(59, 0)], [], [(61, 2)], [(60, 1), (62, 3)], [], [(16, 5), (63, 4)]] [(59, 0), (60, 1), (61, 2), (62, 3), (63, 4), (16, 5)] [
              (fun v _ _ => v = .slice AvR313 4 cvR313),
              NumG (4 * 4 + 2) ((xb - xa) * (yd - ya) - (yb - ya) * (xd - xa)),
              (fun v _ _ => v = .slice AvR314 4 cvR314),
              NumG (4 * 4 + 2) ((xc - xb) * (yd - ya) - (yc - yb) * (xd - xa)),
              NumG (max (4 * 4 + 2) (4 * 4 + 2) + 1) (((xb - xa) * (yd - ya) - (yb - ya) * (xd - xa)) + ((xc - xb) * (yd - ya) - (yc - yb) * (xd - xa))),
              PtrR 5 2,
              (fun _ g w => BoxR 5 (NumG (max (4 * 4 + 2) (4 * 4 + 2) + 1) (((xb - xa) * (yd - ya) - (yb - ya) * (xd - xa)) + ((xc - xb) * (yd - ya) - (yc - yb) * (xd - xa)))) g w)
            ] (fun i => match i with | 5 => some 6 | _ => none) (by kernel_rfl) (by kernel_rfl) ⟨stab_eq, stab_firm (numG_firm _ _), stab_eq, stab_firm (numG_firm _ _), stab_firm (numG_firm _ _), stab_ptr, stab_box (numG_firm _ _) rfl, trivial⟩ ?steps ?fin
          case steps =>
            refine ⟨?_, ?_, ?_, ?_, ?_, ?_, ?_, trivial⟩
            · intro vs g w2 hI hF hR K hK
              simp only [Facts, fill, Act.put, z1, z2, z3, z4, z5, Nat.reduceAdd] at hF hR hK ⊢
              go_simp
              exact hK _ _ _ hI (Step.refl hI) rfl
            · intro vs g w2 hI hF hR K hK
              simp only [Facts, fill, Act.put, z1, z2, z3, z4, z5, Nat.reduceAdd] at hF hR hK ⊢
              obtain ⟨r0, -⟩ := hR
              generalize vs 0 = x0 at *
              subst r0
              go_simp
              refine (gValueF hI ((limR_firm _ _) _ _ _ _ _ FR313_R4_0.out hI.keeps) (by decide) (by first | (refine fit4_sub ?_ ?_ ?_ ?_ <;> repeat first | exact S.diff (by first | assumption | (unfold S; decide)) (by first | assumption | (unfold S; decide)) | apply Fit.neg) | (refine fit4_add ?_ ?_ ?_ ?_ <;> repeat first | exact S.diff (by first | assumption | (unfold S; decide)) (by first | assumption | (unfold S; decide)) | apply Fit.neg))).mono ?_
              rintro e w3 ⟨v3, rfl, hv, hb⟩
              exact hK _ _ _ (hI.call hb) (Step.call hI hb) hv
            · intro vs g w2 hI hF hR K hK
              simp only [Facts, fill, Act.put, z1, z2, z3, z4, z5, Nat.reduceAdd] at hF hR hK ⊢
              go_simp
              exact hK _ _ _ hI (Step.refl hI) rfl
            · intro vs g w2 hI hF hR K hK
              simp only [Facts, fill, Act.put, z1, z2, z3, z4, z5, Nat.reduceAdd] at hF hR hK ⊢
              obtain ⟨r2, -⟩ := hR
              generalize vs 2 = x2 at *
              subst r2
              go_simp
              refine (gValueF hI ((limR_firm _ _) _ _ _ _ _ FR314_R4_0.out hI.keeps) (by decide) (by first | (refine fit4_sub ?_ ?_ ?_ ?_ <;> repeat first | exact S.diff (by first | assumption | (unfold S; decide)) (by first | assumption | (unfold S; decide)) | apply Fit.neg) | (refine fit4_add ?_ ?_ ?_ ?_ <;> repeat first | exact S.diff (by first | assumption | (unfold S; decide)) (by first | assumption | (unfold S; decide)) | apply Fit.neg))).mono ?_
              rintro e w3 ⟨v3, rfl, hv, hb⟩
              exact hK _ _ _ (hI.call hb) (Step.call hI hb) hv
            · intro vs g w2 hI hF hR K hK
              simp only [Facts, fill, Act.put, z1, z2, z3, z4, z5, Nat.reduceAdd] at hF hR hK ⊢
              obtain ⟨r1, r3, -⟩ := hR
              generalize vs 1 = x1, vs 3 = x3 at *
              go_simp
              refine (gAdd hI r1 r3 (by decide) (by decide)).mono ?_
              rintro e w3 ⟨v3, rfl, hv, hb⟩
              exact hK _ _ _ (hI.call hb) (Step.call hI hb) hv
            · intro vs g w2 hI hF hR K hK
              simp only [Facts, fill, Act.put, z1, z2, z3, z4, z5, Nat.reduceAdd] at hF hR hK ⊢
              go_simp
              exact hK _ _ _ (hI.alloc _ (hF (by decide)) _) (Step.alloc hI (hF (by decide)) _) ⟨_, rfl, more_at _ _ _, box2' _ _ _ _⟩
            · intro vs g w2 hI hF hR K hK
              simp only [Facts, fill, Act.put, z1, z2, z3, z4, z5, Nat.reduceAdd] at hF hR hK ⊢
              obtain ⟨r5, r4, -⟩ := hR
              generalize vs 5 = x5, vs 4 = x4 at *
              obtain ⟨k, rfl, hk, hbx⟩ := r5
              have qx := r4
              obtain ⟨s6, A6, n6, c6, rfl, hs6⟩ := numG_open r4
              obtain ⟨⟨u0, k0⟩, f0⟩ := hbx 0 (by decide)
              obtain ⟨⟨u1, k1⟩, f1⟩ := hbx 1 (by decide)
              go_simp
              have ht := (((Touch.refl w2 k).set 0 (.int .i64 s6)).set 1 (.slice A6 n6 c6))
              exact hK undef _ _ (hI.store (by decide) hk ht) (Step.store hI rfl hk ht) ⟨k, .agg #[.int .i64 s6, .slice A6 n6 c6], hk, by rw [ht.size]; exact hI.lt _ _ hk, cells2 k0 k1 (.int .i64 s6) (.slice A6 n6 c6), ((numG_firm _ _) _ _ _ _ _ qx (ht.keeps hk))⟩
          case fin =>
            intro vs g wR6 hI hR
            have r5 := hR 5 (by decide)
            have r6 := hR 6 (by decide)
            simp only [fill, Act.put, z1, z2, z3, z4, z5] at r5 r6 ⊢
            clear hR
            generalize vs 5 = x5 at *
            generalize vs 6 = x6 at *
            have Cab_R6_0 := Lib.hid (hI.cell Cab_R4_0.out (fun _ h => by cases h))
            have Cab_R6_1 := Lib.hid (hI.cell Cab_R4_1.out (fun _ h => by cases h))
            have Cab_R6_2 := Lib.hid (hI.cell Cab_R4_2.out (fun _ h => by cases h))
            have Cab_R6_3 := Lib.hid (hI.cell Cab_R4_3.out (fun _ h => by cases h))
            have Ccd_R6_0 := Lib.hid (hI.cell Ccd_R4_0.out (fun _ h => by cases h))
            have Ccd_R6_1 := Lib.hid (hI.cell Ccd_R4_1.out (fun _ h => by cases h))
            have Ccd_R6_2 := Lib.hid (hI.cell Ccd_R4_2.out (fun _ h => by cases h))
            have Ccd_R6_3 := Lib.hid (hI.cell Ccd_R4_3.out (fun _ h => by cases h))
            have CR15_R6_0 := Lib.hid (hI.cell CR15_R4_0.out (fun _ h => by cases h))
            have CR15_R6_1 := Lib.hid (hI.cell CR15_R4_1.out (fun _ h => by cases h))
            have CR16_R6_0 := Lib.hid (hI.cell CR16_R4_0.out (fun _ h => by cases h))
            have CR16_R6_1 := Lib.hid (hI.cell CR16_R4_1.out (fun _ h => by cases h))
            have CR17_R6_0 := Lib.hid (hI.cell CR17_R4_0.out (fun _ h => by cases h))
            have CR17_R6_1 := Lib.hid (hI.cell CR17_R4_1.out (fun _ h => by cases h))
            have CR18_R6_0 := Lib.hid (hI.cell CR18_R4_0.out (fun _ h => by cases h))
            have CR18_R6_1 := Lib.hid (hI.cell CR18_R4_1.out (fun _ h => by cases h))
            have CR29_R6_0 := Lib.hid (hI.cell CR29_R4_0.out (fun _ h => by cases h))
            have CR29_R6_1 := Lib.hid (hI.cell CR29_R4_1.out (fun _ h => by cases h))
            have FR29_R6_0 := Lib.hid ((vecL_firm _ _) _ _ _ _ _ FR29_R4_0.out hI.carry)
            have FR29_R6_1 := Lib.hid ((limR_firm _ _) _ _ _ _ _ FR29_R4_1.out hI.carry)
            have FR29_R6_2 := Lib.hid ((limR_firm _ _) _ _ _ _ _ FR29_R4_2.out hI.carry)
            have CR210_R6_0 := Lib.hid (hI.cell CR210_R4_0.out (fun _ h => by cases h))
            have CR210_R6_1 := Lib.hid (hI.cell CR210_R4_1.out (fun _ h => by cases h))
            have FR210_R6_0 := Lib.hid ((vecL_firm _ _) _ _ _ _ _ FR210_R4_0.out hI.carry)
            have FR210_R6_1 := Lib.hid ((limR_firm _ _) _ _ _ _ _ FR210_R4_1.out hI.carry)
            have FR210_R6_2 := Lib.hid ((limR_firm _ _) _ _ _ _ _ FR210_R4_2.out hI.carry)
            have CR211_R6_0 := Lib.hid (hI.cell CR211_R4_0.out (fun _ h => by cases h))
            have CR211_R6_1 := Lib.hid (hI.cell CR211_R4_1.out (fun _ h => by cases h))
            have FR211_R6_0 := Lib.hid ((vecL_firm _ _) _ _ _ _ _ FR211_R4_0.out hI.carry)
            have FR211_R6_1 := Lib.hid ((limR_firm _ _) _ _ _ _ _ FR211_R4_1.out hI.carry)
            have FR211_R6_2 := Lib.hid ((limR_firm _ _) _ _ _ _ _ FR211_R4_2.out hI.carry)
            have CR212_R6_0 := Lib.hid (hI.cell CR212_R4_0.out (fun _ h => by cases h))
            have CR212_R6_1 := Lib.hid (hI.cell CR212_R4_1.out (fun _ h => by cases h))
            have FR212_R6_0 := Lib.hid ((vecL_firm _ _) _ _ _ _ _ FR212_R4_0.out hI.carry)
            have FR212_R6_1 := Lib.hid ((limR_firm _ _) _ _ _ _ _ FR212_R4_1.out hI.carry)
            have FR212_R6_2 := Lib.hid ((limR_firm _ _) _ _ _ _ _ FR212_R4_2.out hI.carry)
            have FR313_R6_0 := Lib.hid ((limR_firm _ _) _ _ _ _ _ FR313_R4_0.out hI.carry)
            have FR314_R6_0 := Lib.hid ((limR_firm _ _) _ _ _ _ _ FR314_R4_0.out hI.carry)
            have FR315_R6_0 := Lib.hid ((limR_firm _ _) _ _ _ _ _ FR315_R4_0.out hI.carry)
            obtain ⟨pR616, rfl, hkR616, -⟩ := r5
            obtain ⟨qR616, uR616, hqR616, -, hcR616, hrR616⟩ := r6
            rw [hkR616] at hqR616
            injection hqR616 with hqR616
            subst hqR616
            have qfR616 := hrR616
            obtain ⟨svR616, AvR616, nvR616, cvR616, rfl, hsvR616⟩ := numG_open hrR616
            have FR616_R6_0 := Lib.hid ((numG_firm _ _) _ _ _ _ _ qfR616 hI.back)
            clear qfR616
            have FR616_R6_1 := Lib.hid (numG_sign FR616_R6_0.out)
            have CR616_R6_0 := Lib.hid (hcR616 0 _ rfl)
            have CR616_R6_1 := Lib.hid (hcR616 1 _ rfl)
            clear hcR616 hkR616
            have hBR6 := hI.below
            have HCR6 := hI.next HCR4
            clear hI
            go_upto_region 7 with (fail)
            refine box_plan (c := ⟨w, wR6, (fun _ => none)⟩) HCR6 (by kernel_rfl) [[], [(64, 0)], [(65, 1)], [(65, 1)], [(65, 1), (67, 3)], [(65, 1), (66, 2), (68, 4)], [(65, 1), (69, 5)], [(65, 1), (70, 6)], [(65, 1), (71, 7)], [(72, 8)]] [(64, 0), (65, 1), (66, 2), (67, 3), (68, 4), (69, 5), (70, 6), (71, 7), (72, 8), (4, 9)] [
                (fun v _ _ => v = .bool true),
                (fun v _ _ => v = .bool true),
                (fun v _ _ => v = .agg #[.int .i64 svR616, .slice AvR616 nvR616 cvR616]),
                (fun v _ _ => v = .slice AvR315 4 cvR315),
                NumG (4 * 4 + 2) ((xc - xa) * (yd - ya) - (yc - ya) * (xd - xa)),
                NumG (max (max (4 * 4 + 2) (4 * 4 + 2) + 1) (4 * 4 + 2) + 1) ((((xb - xa) * (yd - ya) - (yb - ya) * (xd - xa)) + ((xc - xb) * (yd - ya) - (yc - yb) * (xd - xa))) - ((xc - xa) * (yd - ya) - (yc - ya) * (xd - xa))),
                SignR ((((xb - xa) * (yd - ya) - (yb - ya) * (xd - xa)) + ((xc - xb) * (yd - ya) - (yc - yb) * (xd - xa))) - ((xc - xa) * (yd - ya) - (yc - ya) * (xd - xa))),
                (fun v _ _ => v = .bool true),
                (fun v _ _ => v = .bool true),
                (fun v _ _ => v = .bool true)
              ] (fun _ => none) (by kernel_rfl) (by kernel_rfl) ⟨stab_eq, stab_eq, stab_eq, stab_eq, stab_firm (numG_firm _ _), stab_firm (numG_firm _ _), stab_firm (signR_firm _), stab_eq, stab_eq, stab_eq, trivial⟩ ?steps ?fin
            case steps =>
              refine ⟨?_, ?_, ?_, ?_, ?_, ?_, ?_, ?_, ?_, ?_, trivial⟩
              · intro vs g w2 hI hF hR K hK
                simp only [Facts, fill, Act.put, z1, z2, z3, z4, z5, Nat.reduceAdd] at hF hR hK ⊢
                go_simp
                refine (gAlive5 hI hw).mono ?_
                rintro e w3 ⟨v3, rfl, hv, hb⟩
                exact hK _ _ _ (hI.call hb) (Step.call hI hb) hv
              · intro vs g w2 hI hF hR K hK
                simp only [Facts, fill, Act.put, z1, z2, z3, z4, z5, Nat.reduceAdd] at hF hR hK ⊢
                obtain ⟨r0, -⟩ := hR
                generalize vs 0 = x0 at *
                subst r0
                go_simp
                exact hK _ _ _ hI (Step.refl hI) rfl
              · intro vs g w2 hI hF hR K hK
                simp only [Facts, fill, Act.put, z1, z2, z3, z4, z5, Nat.reduceAdd] at hF hR hK ⊢
                obtain ⟨r1, -⟩ := hR
                generalize vs 1 = x1 at *
                subst r1
                have k0 := hI.cell CR616_R6_0.out (fun _ h => by cases h)
                have k1 := hI.cell CR616_R6_1.out (fun _ h => by cases h)
                go_simp
                exact hK _ _ _ hI (Step.refl hI) rfl
              · intro vs g w2 hI hF hR K hK
                simp only [Facts, fill, Act.put, z1, z2, z3, z4, z5, Nat.reduceAdd] at hF hR hK ⊢
                obtain ⟨r1, -⟩ := hR
                generalize vs 1 = x1 at *
                subst r1
                go_simp
                exact hK _ _ _ hI (Step.refl hI) rfl
              · intro vs g w2 hI hF hR K hK
                simp only [Facts, fill, Act.put, z1, z2, z3, z4, z5, Nat.reduceAdd] at hF hR hK ⊢
                obtain ⟨r1, r3, -⟩ := hR
                generalize vs 1 = x1, vs 3 = x3 at *
                subst r1 r3
                go_simp
                refine (gValueF hI ((limR_firm _ _) _ _ _ _ _ FR315_R6_0.out hI.keeps) (by decide) (by first | (refine fit4_sub ?_ ?_ ?_ ?_ <;> repeat first | exact S.diff (by first | assumption | (unfold S; decide)) (by first | assumption | (unfold S; decide)) | apply Fit.neg) | (refine fit4_add ?_ ?_ ?_ ?_ <;> repeat first | exact S.diff (by first | assumption | (unfold S; decide)) (by first | assumption | (unfold S; decide)) | apply Fit.neg))).mono ?_
                rintro e w3 ⟨v3, rfl, hv, hb⟩
                exact hK _ _ _ (hI.call hb) (Step.call hI hb) hv
              · intro vs g w2 hI hF hR K hK
                simp only [Facts, fill, Act.put, z1, z2, z3, z4, z5, Nat.reduceAdd] at hF hR hK ⊢
                obtain ⟨r1, r2, r4, -⟩ := hR
                generalize vs 1 = x1, vs 2 = x2, vs 4 = x4 at *
                subst r1 r2
                go_simp
                refine (gSub hI ((numG_firm _ _) _ _ _ _ _ FR616_R6_0.out hI.keeps) r4 (by decide) (by decide)).mono ?_
                rintro e w3 ⟨v3, rfl, hv, hb⟩
                exact hK _ _ _ (hI.call hb) (Step.call hI hb) hv
              · intro vs g w2 hI hF hR K hK
                simp only [Facts, fill, Act.put, z1, z2, z3, z4, z5, Nat.reduceAdd] at hF hR hK ⊢
                obtain ⟨r1, r5, -⟩ := hR
                generalize vs 1 = x1, vs 5 = x5 at *
                subst r1
                obtain ⟨s6, A6, n6, c6, rfl, hs6⟩ := numG_open r5
                go_simp
                exact hK _ _ _ hI (Step.refl hI) hs6
              · intro vs g w2 hI hF hR K hK
                simp only [Facts, fill, Act.put, z1, z2, z3, z4, z5, Nat.reduceAdd] at hF hR hK ⊢
                obtain ⟨r1, r6, -⟩ := hR
                generalize vs 1 = x1, vs 6 = x6 at *
                subst r1
                obtain ⟨s7, rfl, hs7⟩ := r6
                have hz := sign_is (x := (((xb - xa) * (yd - ya) - (yb - ya) * (xd - xa)) + ((xc - xb) * (yd - ya) - (yc - yb) * (xd - xa))) - ((xc - xa) * (yd - ya) - (yc - ya) * (xd - xa))) (k := 0) ⟨s7, rfl, hs7⟩ (by rw [Int.sign_eq_zero_iff_zero]; grind)
                clear hs7
                go_simp
                exact hK _ _ _ hI (Step.refl hI) rfl
              · intro vs g w2 hI hF hR K hK
                simp only [Facts, fill, Act.put, z1, z2, z3, z4, z5, Nat.reduceAdd] at hF hR hK ⊢
                obtain ⟨r1, r7, -⟩ := hR
                generalize vs 1 = x1, vs 7 = x7 at *
                subst r1 r7
                go_simp
                exact hK _ _ _ hI (Step.refl hI) rfl
              · intro vs g w2 hI hF hR K hK
                simp only [Facts, fill, Act.put, z1, z2, z3, z4, z5, Nat.reduceAdd] at hF hR hK ⊢
                obtain ⟨r8, -⟩ := hR
                generalize vs 8 = x8 at *
                subst r8
                go_simp
                exact hK _ _ _ hI (Step.refl hI) rfl
            case fin =>
              intro vs g wR7 hI hR
              have r9 := hR 9 (by decide)
              simp only [fill, Act.put, z1, z2, z3, z4, z5] at r9 ⊢
              clear hR
              generalize vs 9 = x9 at *
              have Cab_R7_0 := Lib.hid (hI.cell Cab_R6_0.out (fun _ h => by cases h))
              have Cab_R7_1 := Lib.hid (hI.cell Cab_R6_1.out (fun _ h => by cases h))
              have Cab_R7_2 := Lib.hid (hI.cell Cab_R6_2.out (fun _ h => by cases h))
              have Cab_R7_3 := Lib.hid (hI.cell Cab_R6_3.out (fun _ h => by cases h))
              have Ccd_R7_0 := Lib.hid (hI.cell Ccd_R6_0.out (fun _ h => by cases h))
              have Ccd_R7_1 := Lib.hid (hI.cell Ccd_R6_1.out (fun _ h => by cases h))
              have Ccd_R7_2 := Lib.hid (hI.cell Ccd_R6_2.out (fun _ h => by cases h))
              have Ccd_R7_3 := Lib.hid (hI.cell Ccd_R6_3.out (fun _ h => by cases h))
              have CR15_R7_0 := Lib.hid (hI.cell CR15_R6_0.out (fun _ h => by cases h))
              have CR15_R7_1 := Lib.hid (hI.cell CR15_R6_1.out (fun _ h => by cases h))
              have CR16_R7_0 := Lib.hid (hI.cell CR16_R6_0.out (fun _ h => by cases h))
              have CR16_R7_1 := Lib.hid (hI.cell CR16_R6_1.out (fun _ h => by cases h))
              have CR17_R7_0 := Lib.hid (hI.cell CR17_R6_0.out (fun _ h => by cases h))
              have CR17_R7_1 := Lib.hid (hI.cell CR17_R6_1.out (fun _ h => by cases h))
              have CR18_R7_0 := Lib.hid (hI.cell CR18_R6_0.out (fun _ h => by cases h))
              have CR18_R7_1 := Lib.hid (hI.cell CR18_R6_1.out (fun _ h => by cases h))
              have CR29_R7_0 := Lib.hid (hI.cell CR29_R6_0.out (fun _ h => by cases h))
              have CR29_R7_1 := Lib.hid (hI.cell CR29_R6_1.out (fun _ h => by cases h))
              have FR29_R7_0 := Lib.hid ((vecL_firm _ _) _ _ _ _ _ FR29_R6_0.out hI.carry)
              have FR29_R7_1 := Lib.hid ((limR_firm _ _) _ _ _ _ _ FR29_R6_1.out hI.carry)
              have FR29_R7_2 := Lib.hid ((limR_firm _ _) _ _ _ _ _ FR29_R6_2.out hI.carry)
              have CR210_R7_0 := Lib.hid (hI.cell CR210_R6_0.out (fun _ h => by cases h))
              have CR210_R7_1 := Lib.hid (hI.cell CR210_R6_1.out (fun _ h => by cases h))
              have FR210_R7_0 := Lib.hid ((vecL_firm _ _) _ _ _ _ _ FR210_R6_0.out hI.carry)
              have FR210_R7_1 := Lib.hid ((limR_firm _ _) _ _ _ _ _ FR210_R6_1.out hI.carry)
              have FR210_R7_2 := Lib.hid ((limR_firm _ _) _ _ _ _ _ FR210_R6_2.out hI.carry)
              have CR211_R7_0 := Lib.hid (hI.cell CR211_R6_0.out (fun _ h => by cases h))
              have CR211_R7_1 := Lib.hid (hI.cell CR211_R6_1.out (fun _ h => by cases h))
              have FR211_R7_0 := Lib.hid ((vecL_firm _ _) _ _ _ _ _ FR211_R6_0.out hI.carry)
              have FR211_R7_1 := Lib.hid ((limR_firm _ _) _ _ _ _ _ FR211_R6_1.out hI.carry)
              have FR211_R7_2 := Lib.hid ((limR_firm _ _) _ _ _ _ _ FR211_R6_2.out hI.carry)
              have CR212_R7_0 := Lib.hid (hI.cell CR212_R6_0.out (fun _ h => by cases h))
              have CR212_R7_1 := Lib.hid (hI.cell CR212_R6_1.out (fun _ h => by cases h))
              have FR212_R7_0 := Lib.hid ((vecL_firm _ _) _ _ _ _ _ FR212_R6_0.out hI.carry)
              have FR212_R7_1 := Lib.hid ((limR_firm _ _) _ _ _ _ _ FR212_R6_1.out hI.carry)
              have FR212_R7_2 := Lib.hid ((limR_firm _ _) _ _ _ _ _ FR212_R6_2.out hI.carry)
              have FR313_R7_0 := Lib.hid ((limR_firm _ _) _ _ _ _ _ FR313_R6_0.out hI.carry)
              have FR314_R7_0 := Lib.hid ((limR_firm _ _) _ _ _ _ _ FR314_R6_0.out hI.carry)
              have FR315_R7_0 := Lib.hid ((limR_firm _ _) _ _ _ _ _ FR315_R6_0.out hI.carry)
              have CR616_R7_0 := Lib.hid (hI.cell CR616_R6_0.out (fun _ h => by cases h))
              have CR616_R7_1 := Lib.hid (hI.cell CR616_R6_1.out (fun _ h => by cases h))
              have FR616_R7_0 := Lib.hid ((numG_firm _ _) _ _ _ _ _ FR616_R6_0.out hI.carry)
              have FR616_R7_1 := Lib.hid ((signR_firm _) _ _ _ _ _ FR616_R6_1.out hI.carry)
              subst r9
              have hBR7 := hI.below
              have HCR7 := hI.next HCR6
              clear hI
              go_wp2
              go_ret
              exact ⟨rfl, hBR7⟩
end Go.Proofs.YtdcckjpeibnkbaaDoor
