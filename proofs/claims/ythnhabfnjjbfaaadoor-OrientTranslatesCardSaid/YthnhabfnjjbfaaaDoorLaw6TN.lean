/-
  Law OrientTranslates, case N. (Written by law5.py.)
-/
import Derived.Test.YthnhabfnjjbfaaaDoorLaw6s
namespace Go.Proofs.YthnhabfnjjbfaaaDoor
open Go.RowKit
set_option maxRecDepth 100000
set_option linter.unusedVariables false
set_option linter.unusedSimpArgs false

set_option maxRecDepth 100000 in
set_option maxHeartbeats 4000000 in
theorem law6T_N (xa ya xb yb xc yc xd yd : Int) (w : World) (hw : Wts w) (sxa : S xa) (sya : S ya) (sxb : S xb) (syb : S yb) (sxc : S xc) (syc : S yc) (sxd : S xd) (syd : S yd) (hno : shI xa ya xd yd + shI xb yb xd yd + shI xc yc xd yd < 3) :
    Calls Tryd.prog 6 #[.agg #[.int .i64 xa, .int .i64 ya, .int .i64 xb, .int .i64 yb, .int .i64 xc, .int .i64 yc], .agg #[.int .i64 xd, .int .i64 yd]] w fun e w' => e = .returned (.bool true) ∧ Below w.heap.size w w' := by
  obtain ⟨X1, hX1⟩ : ∃ v, shA xa xd = v := ⟨_, rfl⟩
  obtain ⟨Y1, hY1⟩ : ∃ v, shA ya yd = v := ⟨_, rfl⟩
  have sX1 : S X1 := by rw [← hX1]; exact shA_s _ _
  have sY1 : S Y1 := by rw [← hY1]; exact shA_s _ _
  have HX1 := Lib.hid hX1
  have HY1 := Lib.hid hY1
  have hbd1 := shI_bd xa ya xd yd
  obtain ⟨I1, hI1⟩ : ∃ v, shI xa ya xd yd = v := ⟨_, rfl⟩
  rw [hI1] at hno hbd1
  have HI1 := Lib.hid hI1
  clear hX1 hY1 hI1
  obtain ⟨X2, hX2⟩ : ∃ v, shA xb xd = v := ⟨_, rfl⟩
  obtain ⟨Y2, hY2⟩ : ∃ v, shA yb yd = v := ⟨_, rfl⟩
  have sX2 : S X2 := by rw [← hX2]; exact shA_s _ _
  have sY2 : S Y2 := by rw [← hY2]; exact shA_s _ _
  have HX2 := Lib.hid hX2
  have HY2 := Lib.hid hY2
  have hbd2 := shI_bd xb yb xd yd
  obtain ⟨I2, hI2⟩ : ∃ v, shI xb yb xd yd = v := ⟨_, rfl⟩
  rw [hI2] at hno hbd2
  have HI2 := Lib.hid hI2
  clear hX2 hY2 hI2
  obtain ⟨X3, hX3⟩ : ∃ v, shA xc xd = v := ⟨_, rfl⟩
  obtain ⟨Y3, hY3⟩ : ∃ v, shA yc yd = v := ⟨_, rfl⟩
  have sX3 : S X3 := by rw [← hX3]; exact shA_s _ _
  have sY3 : S Y3 := by rw [← hY3]; exact shA_s _ _
  have HX3 := Lib.hid hX3
  have HY3 := Lib.hid hY3
  have hbd3 := shI_bd xc yc xd yd
  obtain ⟨I3, hI3⟩ : ∃ v, shI xc yc xd yd = v := ⟨_, rfl⟩
  rw [hI3] at hno hbd3
  have HI3 := Lib.hid hI3
  clear hX3 hY3 hI3
  have ew1 : IntKind.i64.wrap (I1 + I2) = I1 + I2 := i64_small (by omega) (by omega)
  have ew2 : IntKind.i64.wrap (I1 + I2 + I3) = I1 + I2 + I3 := i64_small (by omega) (by omega)
  obtain ⟨W, hW⟩ : ∃ W, W = (w.alloc (.cells #[.int .i64 xa, .int .i64 ya, .int .i64 xb, .int .i64 yb, .int .i64 xc, .int .i64 yc] 41)).alloc (.cells #[.int .i64 xd, .int .i64 yd] 23) := ⟨_, rfl⟩
  have hb0 : Below w.heap.size w W := by rw [hW]; exact (((Below.refl _ _).alloc (Nat.le_refl _) _).alloc (by simp) _)
  have Cabc_W_0 := Lib.hid (show W.cell? ⟨w.heap.size, 0, none⟩ = some (.int .i64 xa) by rw [hW]; simp [go_sem])
  have Cabc_W_1 := Lib.hid (show W.cell? ⟨w.heap.size, 1, none⟩ = some (.int .i64 ya) by rw [hW]; simp [go_sem])
  have Cabc_W_2 := Lib.hid (show W.cell? ⟨w.heap.size, 2, none⟩ = some (.int .i64 xb) by rw [hW]; simp [go_sem])
  have Cabc_W_3 := Lib.hid (show W.cell? ⟨w.heap.size, 3, none⟩ = some (.int .i64 yb) by rw [hW]; simp [go_sem])
  have Cabc_W_4 := Lib.hid (show W.cell? ⟨w.heap.size, 4, none⟩ = some (.int .i64 xc) by rw [hW]; simp [go_sem])
  have Cabc_W_5 := Lib.hid (show W.cell? ⟨w.heap.size, 5, none⟩ = some (.int .i64 yc) by rw [hW]; simp [go_sem])
  have Cd_W_0 := Lib.hid (show W.cell? ⟨w.heap.size + 1, 0, none⟩ = some (.int .i64 xd) by rw [hW]; simp [go_sem])
  have Cd_W_1 := Lib.hid (show W.cell? ⟨w.heap.size + 1, 1, none⟩ = some (.int .i64 yd) by rw [hW]; simp [go_sem])
  have HW := Lib.hid hW
  clear hW
  go_enter Tryd.func6, Tryd.ntmps6
  go_upto_region 1 with (fail)
  rw [← HW.out]
  refine box_plan (c := ⟨w, W, (fun _ => none)⟩) (Ctx.ok_none hb0) (by kernel_rfl) [[], [(14, 0)], [], [(16, 2)], [], [(18, 4)], [], [], [], [(5, 6), (15, 1)], [(6, 7), (17, 3)], [(7, 8), (19, 5)]] [(14, 0), (15, 1), (16, 2), (17, 3), (18, 4), (19, 5), (5, 6), (6, 7), (7, 8)] [
      (fun v _ _ => v = .pointer (some ⟨w.heap.size, 0, none⟩)),
      (fun v _ _ => v = .agg #[.int .i64 xa, .int .i64 ya]),
      (fun v _ _ => v = .pointer (some ⟨w.heap.size, 2, none⟩)),
      (fun v _ _ => v = .agg #[.int .i64 xb, .int .i64 yb]),
      (fun v _ _ => v = .pointer (some ⟨w.heap.size, 4, none⟩)),
      (fun v _ _ => v = .agg #[.int .i64 xc, .int .i64 yc]),
      PtrR 6 2,
      PtrR 7 2,
      PtrR 8 2,
      (fun _ g w => BoxR 6 (fun v _ _ => v = .agg #[.int .i64 xa, .int .i64 ya]) g w),
      (fun _ g w => BoxR 7 (fun v _ _ => v = .agg #[.int .i64 xb, .int .i64 yb]) g w),
      (fun _ g w => BoxR 8 (fun v _ _ => v = .agg #[.int .i64 xc, .int .i64 yc]) g w)
    ] (fun i => match i with | 6 => some 9 | 7 => some 10 | 8 => some 11 | _ => none) (by kernel_rfl) (by kernel_rfl) ⟨stab_eq, stab_eq, stab_eq, stab_eq, stab_eq, stab_eq, stab_ptr, stab_ptr, stab_ptr, stab_box (firm_eq _) rfl, stab_box (firm_eq _) rfl, stab_box (firm_eq _) rfl, trivial⟩ ?steps ?fin
  case steps =>
    refine ⟨?_, ?_, ?_, ?_, ?_, ?_, ?_, ?_, ?_, ?_, ?_, ?_, trivial⟩
    · intro vs g w2 hI hF hR K hK
      simp only [Facts, fill, Act.put, z1, z2, z3, z4, z5, Nat.reduceAdd] at hF hR hK ⊢
      go_simp
      exact hK _ _ _ hI (Step.refl hI) rfl
    · intro vs g w2 hI hF hR K hK
      simp only [Facts, fill, Act.put, z1, z2, z3, z4, z5, Nat.reduceAdd] at hF hR hK ⊢
      obtain ⟨r0, -⟩ := hR
      generalize vs 0 = x0 at *
      subst r0
      have k0 := hI.cell Cabc_W_0.out (fun _ h => by cases h)
      have k1 := hI.cell Cabc_W_1.out (fun _ h => by cases h)
      go_simp
      exact hK _ _ _ hI (Step.refl hI) rfl
    · intro vs g w2 hI hF hR K hK
      simp only [Facts, fill, Act.put, z1, z2, z3, z4, z5, Nat.reduceAdd] at hF hR hK ⊢
      go_simp
      exact hK _ _ _ hI (Step.refl hI) rfl
    · intro vs g w2 hI hF hR K hK
      simp only [Facts, fill, Act.put, z1, z2, z3, z4, z5, Nat.reduceAdd] at hF hR hK ⊢
      obtain ⟨r2, -⟩ := hR
      generalize vs 2 = x2 at *
      subst r2
      have k0 := hI.cell Cabc_W_2.out (fun _ h => by cases h)
      have k1 := hI.cell Cabc_W_3.out (fun _ h => by cases h)
      go_simp
      exact hK _ _ _ hI (Step.refl hI) rfl
    · intro vs g w2 hI hF hR K hK
      simp only [Facts, fill, Act.put, z1, z2, z3, z4, z5, Nat.reduceAdd] at hF hR hK ⊢
      go_simp
      exact hK _ _ _ hI (Step.refl hI) rfl
    · intro vs g w2 hI hF hR K hK
      simp only [Facts, fill, Act.put, z1, z2, z3, z4, z5, Nat.reduceAdd] at hF hR hK ⊢
      obtain ⟨r4, -⟩ := hR
      generalize vs 4 = x4 at *
      subst r4
      have k0 := hI.cell Cabc_W_4.out (fun _ h => by cases h)
      have k1 := hI.cell Cabc_W_5.out (fun _ h => by cases h)
      go_simp
      exact hK _ _ _ hI (Step.refl hI) rfl
    · intro vs g w2 hI hF hR K hK
      simp only [Facts, fill, Act.put, z1, z2, z3, z4, z5, Nat.reduceAdd] at hF hR hK ⊢
      go_simp
      exact hK _ _ _ (hI.alloc _ (hF (by decide)) _) (Step.alloc hI (hF (by decide)) _) ⟨_, rfl, more_at _ _ _, box2' _ _ _ _⟩
    · intro vs g w2 hI hF hR K hK
      simp only [Facts, fill, Act.put, z1, z2, z3, z4, z5, Nat.reduceAdd] at hF hR hK ⊢
      go_simp
      exact hK _ _ _ (hI.alloc _ (hF (by decide)) _) (Step.alloc hI (hF (by decide)) _) ⟨_, rfl, more_at _ _ _, box2' _ _ _ _⟩
    · intro vs g w2 hI hF hR K hK
      simp only [Facts, fill, Act.put, z1, z2, z3, z4, z5, Nat.reduceAdd] at hF hR hK ⊢
      go_simp
      exact hK _ _ _ (hI.alloc _ (hF (by decide)) _) (Step.alloc hI (hF (by decide)) _) ⟨_, rfl, more_at _ _ _, box2' _ _ _ _⟩
    · intro vs g w2 hI hF hR K hK
      simp only [Facts, fill, Act.put, z1, z2, z3, z4, z5, Nat.reduceAdd] at hF hR hK ⊢
      obtain ⟨r6, r1, -⟩ := hR
      generalize vs 6 = x6, vs 1 = x1 at *
      subst r1
      obtain ⟨k, rfl, hk, hbx⟩ := r6
      obtain ⟨⟨u0, k0⟩, f0⟩ := hbx 0 (by decide)
      obtain ⟨⟨u1, k1⟩, f1⟩ := hbx 1 (by decide)
      go_simp
      have ht := (((Touch.refl w2 k).set 0 (.int .i64 xa)).set 1 (.int .i64 ya))
      exact hK undef _ _ (hI.store (by decide) hk ht) (Step.store hI rfl hk ht) ⟨k, .agg #[.int .i64 xa, .int .i64 ya], hk, by rw [ht.size]; exact hI.lt _ _ hk, cells2 k0 k1 (.int .i64 xa) (.int .i64 ya), rfl⟩
    · intro vs g w2 hI hF hR K hK
      simp only [Facts, fill, Act.put, z1, z2, z3, z4, z5, Nat.reduceAdd] at hF hR hK ⊢
      obtain ⟨r7, r3, -⟩ := hR
      generalize vs 7 = x7, vs 3 = x3 at *
      subst r3
      obtain ⟨k, rfl, hk, hbx⟩ := r7
      obtain ⟨⟨u0, k0⟩, f0⟩ := hbx 0 (by decide)
      obtain ⟨⟨u1, k1⟩, f1⟩ := hbx 1 (by decide)
      go_simp
      have ht := (((Touch.refl w2 k).set 0 (.int .i64 xb)).set 1 (.int .i64 yb))
      exact hK undef _ _ (hI.store (by decide) hk ht) (Step.store hI rfl hk ht) ⟨k, .agg #[.int .i64 xb, .int .i64 yb], hk, by rw [ht.size]; exact hI.lt _ _ hk, cells2 k0 k1 (.int .i64 xb) (.int .i64 yb), rfl⟩
    · intro vs g w2 hI hF hR K hK
      simp only [Facts, fill, Act.put, z1, z2, z3, z4, z5, Nat.reduceAdd] at hF hR hK ⊢
      obtain ⟨r8, r5, -⟩ := hR
      generalize vs 8 = x8, vs 5 = x5 at *
      subst r5
      obtain ⟨k, rfl, hk, hbx⟩ := r8
      obtain ⟨⟨u0, k0⟩, f0⟩ := hbx 0 (by decide)
      obtain ⟨⟨u1, k1⟩, f1⟩ := hbx 1 (by decide)
      go_simp
      have ht := (((Touch.refl w2 k).set 0 (.int .i64 xc)).set 1 (.int .i64 yc))
      exact hK undef _ _ (hI.store (by decide) hk ht) (Step.store hI rfl hk ht) ⟨k, .agg #[.int .i64 xc, .int .i64 yc], hk, by rw [ht.size]; exact hI.lt _ _ hk, cells2 k0 k1 (.int .i64 xc) (.int .i64 yc), rfl⟩
  case fin =>
    intro vs g wR1 hI hR
    have r6 := hR 6 (by decide)
    have r7 := hR 7 (by decide)
    have r8 := hR 8 (by decide)
    have r9 := hR 9 (by decide)
    have r10 := hR 10 (by decide)
    have r11 := hR 11 (by decide)
    simp only [fill, Act.put, z1, z2, z3, z4, z5] at r6 r7 r8 r9 r10 r11 ⊢
    clear hR
    generalize vs 6 = x6 at *
    generalize vs 7 = x7 at *
    generalize vs 8 = x8 at *
    generalize vs 9 = x9 at *
    generalize vs 10 = x10 at *
    generalize vs 11 = x11 at *
    have Cabc_R1_0 := Lib.hid (hI.cell Cabc_W_0.out (fun _ h => by cases h))
    have Cabc_R1_1 := Lib.hid (hI.cell Cabc_W_1.out (fun _ h => by cases h))
    have Cabc_R1_2 := Lib.hid (hI.cell Cabc_W_2.out (fun _ h => by cases h))
    have Cabc_R1_3 := Lib.hid (hI.cell Cabc_W_3.out (fun _ h => by cases h))
    have Cabc_R1_4 := Lib.hid (hI.cell Cabc_W_4.out (fun _ h => by cases h))
    have Cabc_R1_5 := Lib.hid (hI.cell Cabc_W_5.out (fun _ h => by cases h))
    have Cd_R1_0 := Lib.hid (hI.cell Cd_W_0.out (fun _ h => by cases h))
    have Cd_R1_1 := Lib.hid (hI.cell Cd_W_1.out (fun _ h => by cases h))
    obtain ⟨pR15, rfl, hkR15, -⟩ := r6
    obtain ⟨qR15, uR15, hqR15, -, hcR15, hrR15⟩ := r9
    rw [hkR15] at hqR15
    injection hqR15 with hqR15
    subst hqR15
    subst hrR15
    have CR15_R1_0 := Lib.hid (hcR15 0 _ rfl)
    have CR15_R1_1 := Lib.hid (hcR15 1 _ rfl)
    clear hcR15 hkR15
    obtain ⟨pR16, rfl, hkR16, -⟩ := r7
    obtain ⟨qR16, uR16, hqR16, -, hcR16, hrR16⟩ := r10
    rw [hkR16] at hqR16
    injection hqR16 with hqR16
    subst hqR16
    subst hrR16
    have CR16_R1_0 := Lib.hid (hcR16 0 _ rfl)
    have CR16_R1_1 := Lib.hid (hcR16 1 _ rfl)
    clear hcR16 hkR16
    obtain ⟨pR17, rfl, hkR17, -⟩ := r8
    obtain ⟨qR17, uR17, hqR17, -, hcR17, hrR17⟩ := r11
    rw [hkR17] at hqR17
    injection hqR17 with hqR17
    subst hqR17
    subst hrR17
    have CR17_R1_0 := Lib.hid (hcR17 0 _ rfl)
    have CR17_R1_1 := Lib.hid (hcR17 1 _ rfl)
    clear hcR17 hkR17
    have hBR1 := hI.below
    have HCR1 := hI.next (Ctx.ok_none hb0)
    clear hI
    go_upto_region 2 with (fail)
    refine box_plan0 (c := ⟨w, wR1, (fun _ => none)⟩) HCR1 [[], [], [(22, 1)], [], [(24, 3)], [(21, 0), (23, 2), (25, 4)], [(26, 5)], [(20, 6)], [(20, 6)], [], [(8, 9), (27, 7)], [(28, 8)]] [(21, 0), (22, 1), (23, 2), (24, 3), (25, 4), (26, 5), (20, 6), (27, 7), (28, 8), (8, 9), (9, 11)] [
        (fun v _ _ => v = .agg #[.int .i64 xa, .int .i64 ya]),
        (fun v _ _ => v = .pointer (some ⟨w.heap.size + 1, 0, none⟩)),
        (fun v _ _ => v = .int .i64 xd),
        (fun v _ _ => v = .pointer (some ⟨w.heap.size + 1, 1, none⟩)),
        (fun v _ _ => v = .int .i64 yd),
        (fun v _ _ => v = .tuple #[.agg #[.int .i64 X1, .int .i64 Y1], .int .i64 I1]),
        (fun v _ _ => v = .tuple #[.agg #[.int .i64 X1, .int .i64 Y1], .int .i64 I1]),
        (fun v _ _ => v = .agg #[.int .i64 X1, .int .i64 Y1]),
        (fun v _ _ => v = .int .i64 I1),
        PtrR 9 2,
        (fun _ g w => BoxR 9 (fun v _ _ => v = .agg #[.int .i64 X1, .int .i64 Y1]) g w),
        (fun v _ _ => v = .int .i64 I1)
      ] (fun i => match i with | 9 => some 10 | _ => none) (by kernel_rfl) (by kernel_rfl) ⟨stab_eq, stab_eq, stab_eq, stab_eq, stab_eq, stab_eq, stab_eq, stab_eq, stab_eq, stab_ptr, stab_box (firm_eq _) rfl, stab_eq, trivial⟩ ?steps ?fin
    case steps =>
      refine ⟨?_, ?_, ?_, ?_, ?_, ?_, ?_, ?_, ?_, ?_, ?_, ?_, trivial⟩
      · intro vs g w2 hI hF hR K hK
        simp only [Facts, fill, Act.put, z1, z2, z3, z4, z5, Nat.reduceAdd] at hF hR hK ⊢
        have k0 := hI.cell CR15_R1_0.out (fun _ h => by cases h)
        have k1 := hI.cell CR15_R1_1.out (fun _ h => by cases h)
        go_simp
        exact hK _ _ _ hI (Step.refl hI) rfl
      · intro vs g w2 hI hF hR K hK
        simp only [Facts, fill, Act.put, z1, z2, z3, z4, z5, Nat.reduceAdd] at hF hR hK ⊢
        go_simp
        exact hK _ _ _ hI (Step.refl hI) rfl
      · intro vs g w2 hI hF hR K hK
        simp only [Facts, fill, Act.put, z1, z2, z3, z4, z5, Nat.reduceAdd] at hF hR hK ⊢
        obtain ⟨r1, -⟩ := hR
        generalize vs 1 = x1 at *
        subst r1
        have k0 := hI.cell Cd_R1_0.out (fun _ h => by cases h)
        go_simp
        exact hK _ _ _ hI (Step.refl hI) rfl
      · intro vs g w2 hI hF hR K hK
        simp only [Facts, fill, Act.put, z1, z2, z3, z4, z5, Nat.reduceAdd] at hF hR hK ⊢
        go_simp
        exact hK _ _ _ hI (Step.refl hI) rfl
      · intro vs g w2 hI hF hR K hK
        simp only [Facts, fill, Act.put, z1, z2, z3, z4, z5, Nat.reduceAdd] at hF hR hK ⊢
        obtain ⟨r3, -⟩ := hR
        generalize vs 3 = x3 at *
        subst r3
        have k0 := hI.cell Cd_R1_1.out (fun _ h => by cases h)
        go_simp
        exact hK _ _ _ hI (Step.refl hI) rfl
      · intro vs g w2 hI hF hR K hK
        simp only [Facts, fill, Act.put, z1, z2, z3, z4, z5, Nat.reduceAdd] at hF hR hK ⊢
        obtain ⟨r0, r2, r4, -⟩ := hR
        generalize vs 0 = x0, vs 2 = x2, vs 4 = x4 at *
        subst r0 r2 r4
        go_simp
        refine (gShift hI HX1.out HY1.out HI1.out).mono ?_
        rintro e w3 ⟨v3, rfl, hv, hb⟩
        exact hK _ _ _ (hI.call hb) (Step.call hI hb) hv
      · intro vs g w2 hI hF hR K hK
        simp only [Facts, fill, Act.put, z1, z2, z3, z4, z5, Nat.reduceAdd] at hF hR hK ⊢
        obtain ⟨r5, -⟩ := hR
        generalize vs 5 = x5 at *
        subst r5
        go_simp
        exact hK _ _ _ hI (Step.refl hI) rfl
      · intro vs g w2 hI hF hR K hK
        simp only [Facts, fill, Act.put, z1, z2, z3, z4, z5, Nat.reduceAdd] at hF hR hK ⊢
        obtain ⟨r6, -⟩ := hR
        generalize vs 6 = x6 at *
        subst r6
        go_simp
        exact hK _ _ _ hI (Step.refl hI) rfl
      · intro vs g w2 hI hF hR K hK
        simp only [Facts, fill, Act.put, z1, z2, z3, z4, z5, Nat.reduceAdd] at hF hR hK ⊢
        obtain ⟨r6, -⟩ := hR
        generalize vs 6 = x6 at *
        subst r6
        go_simp
        exact hK _ _ _ hI (Step.refl hI) rfl
      · intro vs g w2 hI hF hR K hK
        simp only [Facts, fill, Act.put, z1, z2, z3, z4, z5, Nat.reduceAdd] at hF hR hK ⊢
        go_simp
        exact hK _ _ _ (hI.alloc _ (hF (by decide)) _) (Step.alloc hI (hF (by decide)) _) ⟨_, rfl, more_at _ _ _, box2' _ _ _ _⟩
      · intro vs g w2 hI hF hR K hK
        simp only [Facts, fill, Act.put, z1, z2, z3, z4, z5, Nat.reduceAdd] at hF hR hK ⊢
        obtain ⟨r9, r7, -⟩ := hR
        generalize vs 9 = x9, vs 7 = x7 at *
        subst r7
        obtain ⟨k, rfl, hk, hbx⟩ := r9
        obtain ⟨⟨u0, k0⟩, f0⟩ := hbx 0 (by decide)
        obtain ⟨⟨u1, k1⟩, f1⟩ := hbx 1 (by decide)
        go_simp
        have ht := (((Touch.refl w2 k).set 0 (.int .i64 X1)).set 1 (.int .i64 Y1))
        exact hK undef _ _ (hI.store (by decide) hk ht) (Step.store hI rfl hk ht) ⟨k, .agg #[.int .i64 X1, .int .i64 Y1], hk, by rw [ht.size]; exact hI.lt _ _ hk, cells2 k0 k1 (.int .i64 X1) (.int .i64 Y1), rfl⟩
      · intro vs g w2 hI hF hR K hK
        simp only [Facts, fill, Act.put, z1, z2, z3, z4, z5, Nat.reduceAdd] at hF hR hK ⊢
        obtain ⟨r8, -⟩ := hR
        generalize vs 8 = x8 at *
        subst r8
        go_simp
        exact hK _ _ _ hI (Step.refl hI) rfl
    case fin =>
      intro vs g wR2 hI hR
      have r9 := hR 9 (by decide)
      have r10 := hR 10 (by decide)
      have r11 := hR 11 (by decide)
      simp only [fill, Act.put, z1, z2, z3, z4, z5] at r9 r10 r11 ⊢
      clear hR
      generalize vs 9 = x9 at *
      generalize vs 10 = x10 at *
      generalize vs 11 = x11 at *
      have Cabc_R2_0 := Lib.hid (hI.cell Cabc_R1_0.out (fun _ h => by cases h))
      have Cabc_R2_1 := Lib.hid (hI.cell Cabc_R1_1.out (fun _ h => by cases h))
      have Cabc_R2_2 := Lib.hid (hI.cell Cabc_R1_2.out (fun _ h => by cases h))
      have Cabc_R2_3 := Lib.hid (hI.cell Cabc_R1_3.out (fun _ h => by cases h))
      have Cabc_R2_4 := Lib.hid (hI.cell Cabc_R1_4.out (fun _ h => by cases h))
      have Cabc_R2_5 := Lib.hid (hI.cell Cabc_R1_5.out (fun _ h => by cases h))
      have Cd_R2_0 := Lib.hid (hI.cell Cd_R1_0.out (fun _ h => by cases h))
      have Cd_R2_1 := Lib.hid (hI.cell Cd_R1_1.out (fun _ h => by cases h))
      have CR15_R2_0 := Lib.hid (hI.cell CR15_R1_0.out (fun _ h => by cases h))
      have CR15_R2_1 := Lib.hid (hI.cell CR15_R1_1.out (fun _ h => by cases h))
      have CR16_R2_0 := Lib.hid (hI.cell CR16_R1_0.out (fun _ h => by cases h))
      have CR16_R2_1 := Lib.hid (hI.cell CR16_R1_1.out (fun _ h => by cases h))
      have CR17_R2_0 := Lib.hid (hI.cell CR17_R1_0.out (fun _ h => by cases h))
      have CR17_R2_1 := Lib.hid (hI.cell CR17_R1_1.out (fun _ h => by cases h))
      obtain ⟨pR28, rfl, hkR28, -⟩ := r9
      obtain ⟨qR28, uR28, hqR28, -, hcR28, hrR28⟩ := r10
      rw [hkR28] at hqR28
      injection hqR28 with hqR28
      subst hqR28
      subst hrR28
      have CR28_R2_0 := Lib.hid (hcR28 0 _ rfl)
      have CR28_R2_1 := Lib.hid (hcR28 1 _ rfl)
      clear hcR28 hkR28
      subst r11
      have hBR2 := hI.below
      have HCR2 := hI.next HCR1
      clear hI
      go_upto_region 3 with (fail)
      refine box_plan0 (c := ⟨w, wR2, (fun _ => none)⟩) HCR2 [[], [], [(31, 1)], [], [(33, 3)], [(30, 0), (32, 2), (34, 4)], [(35, 5)], [(29, 6)], [(29, 6)], [], [(10, 9), (36, 7)], [(37, 8)]] [(30, 0), (31, 1), (32, 2), (33, 3), (34, 4), (35, 5), (29, 6), (36, 7), (37, 8), (10, 9), (11, 11)] [
          (fun v _ _ => v = .agg #[.int .i64 xb, .int .i64 yb]),
          (fun v _ _ => v = .pointer (some ⟨w.heap.size + 1, 0, none⟩)),
          (fun v _ _ => v = .int .i64 xd),
          (fun v _ _ => v = .pointer (some ⟨w.heap.size + 1, 1, none⟩)),
          (fun v _ _ => v = .int .i64 yd),
          (fun v _ _ => v = .tuple #[.agg #[.int .i64 X2, .int .i64 Y2], .int .i64 I2]),
          (fun v _ _ => v = .tuple #[.agg #[.int .i64 X2, .int .i64 Y2], .int .i64 I2]),
          (fun v _ _ => v = .agg #[.int .i64 X2, .int .i64 Y2]),
          (fun v _ _ => v = .int .i64 I2),
          PtrR 9 2,
          (fun _ g w => BoxR 9 (fun v _ _ => v = .agg #[.int .i64 X2, .int .i64 Y2]) g w),
          (fun v _ _ => v = .int .i64 I2)
        ] (fun i => match i with | 9 => some 10 | _ => none) (by kernel_rfl) (by kernel_rfl) ⟨stab_eq, stab_eq, stab_eq, stab_eq, stab_eq, stab_eq, stab_eq, stab_eq, stab_eq, stab_ptr, stab_box (firm_eq _) rfl, stab_eq, trivial⟩ ?steps ?fin
      case steps =>
        refine ⟨?_, ?_, ?_, ?_, ?_, ?_, ?_, ?_, ?_, ?_, ?_, ?_, trivial⟩
        · intro vs g w2 hI hF hR K hK
          simp only [Facts, fill, Act.put, z1, z2, z3, z4, z5, Nat.reduceAdd] at hF hR hK ⊢
          have k0 := hI.cell CR16_R2_0.out (fun _ h => by cases h)
          have k1 := hI.cell CR16_R2_1.out (fun _ h => by cases h)
          go_simp
          exact hK _ _ _ hI (Step.refl hI) rfl
        · intro vs g w2 hI hF hR K hK
          simp only [Facts, fill, Act.put, z1, z2, z3, z4, z5, Nat.reduceAdd] at hF hR hK ⊢
          go_simp
          exact hK _ _ _ hI (Step.refl hI) rfl
        · intro vs g w2 hI hF hR K hK
          simp only [Facts, fill, Act.put, z1, z2, z3, z4, z5, Nat.reduceAdd] at hF hR hK ⊢
          obtain ⟨r1, -⟩ := hR
          generalize vs 1 = x1 at *
          subst r1
          have k0 := hI.cell Cd_R2_0.out (fun _ h => by cases h)
          go_simp
          exact hK _ _ _ hI (Step.refl hI) rfl
        · intro vs g w2 hI hF hR K hK
          simp only [Facts, fill, Act.put, z1, z2, z3, z4, z5, Nat.reduceAdd] at hF hR hK ⊢
          go_simp
          exact hK _ _ _ hI (Step.refl hI) rfl
        · intro vs g w2 hI hF hR K hK
          simp only [Facts, fill, Act.put, z1, z2, z3, z4, z5, Nat.reduceAdd] at hF hR hK ⊢
          obtain ⟨r3, -⟩ := hR
          generalize vs 3 = x3 at *
          subst r3
          have k0 := hI.cell Cd_R2_1.out (fun _ h => by cases h)
          go_simp
          exact hK _ _ _ hI (Step.refl hI) rfl
        · intro vs g w2 hI hF hR K hK
          simp only [Facts, fill, Act.put, z1, z2, z3, z4, z5, Nat.reduceAdd] at hF hR hK ⊢
          obtain ⟨r0, r2, r4, -⟩ := hR
          generalize vs 0 = x0, vs 2 = x2, vs 4 = x4 at *
          subst r0 r2 r4
          go_simp
          refine (gShift hI HX2.out HY2.out HI2.out).mono ?_
          rintro e w3 ⟨v3, rfl, hv, hb⟩
          exact hK _ _ _ (hI.call hb) (Step.call hI hb) hv
        · intro vs g w2 hI hF hR K hK
          simp only [Facts, fill, Act.put, z1, z2, z3, z4, z5, Nat.reduceAdd] at hF hR hK ⊢
          obtain ⟨r5, -⟩ := hR
          generalize vs 5 = x5 at *
          subst r5
          go_simp
          exact hK _ _ _ hI (Step.refl hI) rfl
        · intro vs g w2 hI hF hR K hK
          simp only [Facts, fill, Act.put, z1, z2, z3, z4, z5, Nat.reduceAdd] at hF hR hK ⊢
          obtain ⟨r6, -⟩ := hR
          generalize vs 6 = x6 at *
          subst r6
          go_simp
          exact hK _ _ _ hI (Step.refl hI) rfl
        · intro vs g w2 hI hF hR K hK
          simp only [Facts, fill, Act.put, z1, z2, z3, z4, z5, Nat.reduceAdd] at hF hR hK ⊢
          obtain ⟨r6, -⟩ := hR
          generalize vs 6 = x6 at *
          subst r6
          go_simp
          exact hK _ _ _ hI (Step.refl hI) rfl
        · intro vs g w2 hI hF hR K hK
          simp only [Facts, fill, Act.put, z1, z2, z3, z4, z5, Nat.reduceAdd] at hF hR hK ⊢
          go_simp
          exact hK _ _ _ (hI.alloc _ (hF (by decide)) _) (Step.alloc hI (hF (by decide)) _) ⟨_, rfl, more_at _ _ _, box2' _ _ _ _⟩
        · intro vs g w2 hI hF hR K hK
          simp only [Facts, fill, Act.put, z1, z2, z3, z4, z5, Nat.reduceAdd] at hF hR hK ⊢
          obtain ⟨r9, r7, -⟩ := hR
          generalize vs 9 = x9, vs 7 = x7 at *
          subst r7
          obtain ⟨k, rfl, hk, hbx⟩ := r9
          obtain ⟨⟨u0, k0⟩, f0⟩ := hbx 0 (by decide)
          obtain ⟨⟨u1, k1⟩, f1⟩ := hbx 1 (by decide)
          go_simp
          have ht := (((Touch.refl w2 k).set 0 (.int .i64 X2)).set 1 (.int .i64 Y2))
          exact hK undef _ _ (hI.store (by decide) hk ht) (Step.store hI rfl hk ht) ⟨k, .agg #[.int .i64 X2, .int .i64 Y2], hk, by rw [ht.size]; exact hI.lt _ _ hk, cells2 k0 k1 (.int .i64 X2) (.int .i64 Y2), rfl⟩
        · intro vs g w2 hI hF hR K hK
          simp only [Facts, fill, Act.put, z1, z2, z3, z4, z5, Nat.reduceAdd] at hF hR hK ⊢
          obtain ⟨r8, -⟩ := hR
          generalize vs 8 = x8 at *
          subst r8
          go_simp
          exact hK _ _ _ hI (Step.refl hI) rfl
      case fin =>
        intro vs g wR3 hI hR
        have r9 := hR 9 (by decide)
        have r10 := hR 10 (by decide)
        have r11 := hR 11 (by decide)
        simp only [fill, Act.put, z1, z2, z3, z4, z5] at r9 r10 r11 ⊢
        clear hR
        generalize vs 9 = x9 at *
        generalize vs 10 = x10 at *
        generalize vs 11 = x11 at *
        have Cabc_R3_0 := Lib.hid (hI.cell Cabc_R2_0.out (fun _ h => by cases h))
        have Cabc_R3_1 := Lib.hid (hI.cell Cabc_R2_1.out (fun _ h => by cases h))
        have Cabc_R3_2 := Lib.hid (hI.cell Cabc_R2_2.out (fun _ h => by cases h))
        have Cabc_R3_3 := Lib.hid (hI.cell Cabc_R2_3.out (fun _ h => by cases h))
        have Cabc_R3_4 := Lib.hid (hI.cell Cabc_R2_4.out (fun _ h => by cases h))
        have Cabc_R3_5 := Lib.hid (hI.cell Cabc_R2_5.out (fun _ h => by cases h))
        have Cd_R3_0 := Lib.hid (hI.cell Cd_R2_0.out (fun _ h => by cases h))
        have Cd_R3_1 := Lib.hid (hI.cell Cd_R2_1.out (fun _ h => by cases h))
        have CR15_R3_0 := Lib.hid (hI.cell CR15_R2_0.out (fun _ h => by cases h))
        have CR15_R3_1 := Lib.hid (hI.cell CR15_R2_1.out (fun _ h => by cases h))
        have CR16_R3_0 := Lib.hid (hI.cell CR16_R2_0.out (fun _ h => by cases h))
        have CR16_R3_1 := Lib.hid (hI.cell CR16_R2_1.out (fun _ h => by cases h))
        have CR17_R3_0 := Lib.hid (hI.cell CR17_R2_0.out (fun _ h => by cases h))
        have CR17_R3_1 := Lib.hid (hI.cell CR17_R2_1.out (fun _ h => by cases h))
        have CR28_R3_0 := Lib.hid (hI.cell CR28_R2_0.out (fun _ h => by cases h))
        have CR28_R3_1 := Lib.hid (hI.cell CR28_R2_1.out (fun _ h => by cases h))
        obtain ⟨pR310, rfl, hkR310, -⟩ := r9
        obtain ⟨qR310, uR310, hqR310, -, hcR310, hrR310⟩ := r10
        rw [hkR310] at hqR310
        injection hqR310 with hqR310
        subst hqR310
        subst hrR310
        have CR310_R3_0 := Lib.hid (hcR310 0 _ rfl)
        have CR310_R3_1 := Lib.hid (hcR310 1 _ rfl)
        clear hcR310 hkR310
        subst r11
        have hBR3 := hI.below
        have HCR3 := hI.next HCR2
        clear hI
        go_upto_region 4 with (fail)
        refine box_plan0 (c := ⟨w, wR3, (fun _ => none)⟩) HCR3 [[], [], [(40, 1)], [], [(42, 3)], [(39, 0), (41, 2), (43, 4)], [(44, 5)], [(38, 6)], [(38, 6)], [], [(12, 9), (45, 7)], [(46, 8)]] [(39, 0), (40, 1), (41, 2), (42, 3), (43, 4), (44, 5), (38, 6), (45, 7), (46, 8), (12, 9), (13, 11)] [
            (fun v _ _ => v = .agg #[.int .i64 xc, .int .i64 yc]),
            (fun v _ _ => v = .pointer (some ⟨w.heap.size + 1, 0, none⟩)),
            (fun v _ _ => v = .int .i64 xd),
            (fun v _ _ => v = .pointer (some ⟨w.heap.size + 1, 1, none⟩)),
            (fun v _ _ => v = .int .i64 yd),
            (fun v _ _ => v = .tuple #[.agg #[.int .i64 X3, .int .i64 Y3], .int .i64 I3]),
            (fun v _ _ => v = .tuple #[.agg #[.int .i64 X3, .int .i64 Y3], .int .i64 I3]),
            (fun v _ _ => v = .agg #[.int .i64 X3, .int .i64 Y3]),
            (fun v _ _ => v = .int .i64 I3),
            PtrR 9 2,
            (fun _ g w => BoxR 9 (fun v _ _ => v = .agg #[.int .i64 X3, .int .i64 Y3]) g w),
            (fun v _ _ => v = .int .i64 I3)
          ] (fun i => match i with | 9 => some 10 | _ => none) (by kernel_rfl) (by kernel_rfl) ⟨stab_eq, stab_eq, stab_eq, stab_eq, stab_eq, stab_eq, stab_eq, stab_eq, stab_eq, stab_ptr, stab_box (firm_eq _) rfl, stab_eq, trivial⟩ ?steps ?fin
        case steps =>
          refine ⟨?_, ?_, ?_, ?_, ?_, ?_, ?_, ?_, ?_, ?_, ?_, ?_, trivial⟩
          · intro vs g w2 hI hF hR K hK
            simp only [Facts, fill, Act.put, z1, z2, z3, z4, z5, Nat.reduceAdd] at hF hR hK ⊢
            have k0 := hI.cell CR17_R3_0.out (fun _ h => by cases h)
            have k1 := hI.cell CR17_R3_1.out (fun _ h => by cases h)
            go_simp
            exact hK _ _ _ hI (Step.refl hI) rfl
          · intro vs g w2 hI hF hR K hK
            simp only [Facts, fill, Act.put, z1, z2, z3, z4, z5, Nat.reduceAdd] at hF hR hK ⊢
            go_simp
            exact hK _ _ _ hI (Step.refl hI) rfl
          · intro vs g w2 hI hF hR K hK
            simp only [Facts, fill, Act.put, z1, z2, z3, z4, z5, Nat.reduceAdd] at hF hR hK ⊢
            obtain ⟨r1, -⟩ := hR
            generalize vs 1 = x1 at *
            subst r1
            have k0 := hI.cell Cd_R3_0.out (fun _ h => by cases h)
            go_simp
            exact hK _ _ _ hI (Step.refl hI) rfl
          · intro vs g w2 hI hF hR K hK
            simp only [Facts, fill, Act.put, z1, z2, z3, z4, z5, Nat.reduceAdd] at hF hR hK ⊢
            go_simp
            exact hK _ _ _ hI (Step.refl hI) rfl
          · intro vs g w2 hI hF hR K hK
            simp only [Facts, fill, Act.put, z1, z2, z3, z4, z5, Nat.reduceAdd] at hF hR hK ⊢
            obtain ⟨r3, -⟩ := hR
            generalize vs 3 = x3 at *
            subst r3
            have k0 := hI.cell Cd_R3_1.out (fun _ h => by cases h)
            go_simp
            exact hK _ _ _ hI (Step.refl hI) rfl
          · intro vs g w2 hI hF hR K hK
            simp only [Facts, fill, Act.put, z1, z2, z3, z4, z5, Nat.reduceAdd] at hF hR hK ⊢
            obtain ⟨r0, r2, r4, -⟩ := hR
            generalize vs 0 = x0, vs 2 = x2, vs 4 = x4 at *
            subst r0 r2 r4
            go_simp
            refine (gShift hI HX3.out HY3.out HI3.out).mono ?_
            rintro e w3 ⟨v3, rfl, hv, hb⟩
            exact hK _ _ _ (hI.call hb) (Step.call hI hb) hv
          · intro vs g w2 hI hF hR K hK
            simp only [Facts, fill, Act.put, z1, z2, z3, z4, z5, Nat.reduceAdd] at hF hR hK ⊢
            obtain ⟨r5, -⟩ := hR
            generalize vs 5 = x5 at *
            subst r5
            go_simp
            exact hK _ _ _ hI (Step.refl hI) rfl
          · intro vs g w2 hI hF hR K hK
            simp only [Facts, fill, Act.put, z1, z2, z3, z4, z5, Nat.reduceAdd] at hF hR hK ⊢
            obtain ⟨r6, -⟩ := hR
            generalize vs 6 = x6 at *
            subst r6
            go_simp
            exact hK _ _ _ hI (Step.refl hI) rfl
          · intro vs g w2 hI hF hR K hK
            simp only [Facts, fill, Act.put, z1, z2, z3, z4, z5, Nat.reduceAdd] at hF hR hK ⊢
            obtain ⟨r6, -⟩ := hR
            generalize vs 6 = x6 at *
            subst r6
            go_simp
            exact hK _ _ _ hI (Step.refl hI) rfl
          · intro vs g w2 hI hF hR K hK
            simp only [Facts, fill, Act.put, z1, z2, z3, z4, z5, Nat.reduceAdd] at hF hR hK ⊢
            go_simp
            exact hK _ _ _ (hI.alloc _ (hF (by decide)) _) (Step.alloc hI (hF (by decide)) _) ⟨_, rfl, more_at _ _ _, box2' _ _ _ _⟩
          · intro vs g w2 hI hF hR K hK
            simp only [Facts, fill, Act.put, z1, z2, z3, z4, z5, Nat.reduceAdd] at hF hR hK ⊢
            obtain ⟨r9, r7, -⟩ := hR
            generalize vs 9 = x9, vs 7 = x7 at *
            subst r7
            obtain ⟨k, rfl, hk, hbx⟩ := r9
            obtain ⟨⟨u0, k0⟩, f0⟩ := hbx 0 (by decide)
            obtain ⟨⟨u1, k1⟩, f1⟩ := hbx 1 (by decide)
            go_simp
            have ht := (((Touch.refl w2 k).set 0 (.int .i64 X3)).set 1 (.int .i64 Y3))
            exact hK undef _ _ (hI.store (by decide) hk ht) (Step.store hI rfl hk ht) ⟨k, .agg #[.int .i64 X3, .int .i64 Y3], hk, by rw [ht.size]; exact hI.lt _ _ hk, cells2 k0 k1 (.int .i64 X3) (.int .i64 Y3), rfl⟩
          · intro vs g w2 hI hF hR K hK
            simp only [Facts, fill, Act.put, z1, z2, z3, z4, z5, Nat.reduceAdd] at hF hR hK ⊢
            obtain ⟨r8, -⟩ := hR
            generalize vs 8 = x8 at *
            subst r8
            go_simp
            exact hK _ _ _ hI (Step.refl hI) rfl
        case fin =>
          intro vs g wR4 hI hR
          have r9 := hR 9 (by decide)
          have r10 := hR 10 (by decide)
          have r11 := hR 11 (by decide)
          simp only [fill, Act.put, z1, z2, z3, z4, z5] at r9 r10 r11 ⊢
          clear hR
          generalize vs 9 = x9 at *
          generalize vs 10 = x10 at *
          generalize vs 11 = x11 at *
          have Cabc_R4_0 := Lib.hid (hI.cell Cabc_R3_0.out (fun _ h => by cases h))
          have Cabc_R4_1 := Lib.hid (hI.cell Cabc_R3_1.out (fun _ h => by cases h))
          have Cabc_R4_2 := Lib.hid (hI.cell Cabc_R3_2.out (fun _ h => by cases h))
          have Cabc_R4_3 := Lib.hid (hI.cell Cabc_R3_3.out (fun _ h => by cases h))
          have Cabc_R4_4 := Lib.hid (hI.cell Cabc_R3_4.out (fun _ h => by cases h))
          have Cabc_R4_5 := Lib.hid (hI.cell Cabc_R3_5.out (fun _ h => by cases h))
          have Cd_R4_0 := Lib.hid (hI.cell Cd_R3_0.out (fun _ h => by cases h))
          have Cd_R4_1 := Lib.hid (hI.cell Cd_R3_1.out (fun _ h => by cases h))
          have CR15_R4_0 := Lib.hid (hI.cell CR15_R3_0.out (fun _ h => by cases h))
          have CR15_R4_1 := Lib.hid (hI.cell CR15_R3_1.out (fun _ h => by cases h))
          have CR16_R4_0 := Lib.hid (hI.cell CR16_R3_0.out (fun _ h => by cases h))
          have CR16_R4_1 := Lib.hid (hI.cell CR16_R3_1.out (fun _ h => by cases h))
          have CR17_R4_0 := Lib.hid (hI.cell CR17_R3_0.out (fun _ h => by cases h))
          have CR17_R4_1 := Lib.hid (hI.cell CR17_R3_1.out (fun _ h => by cases h))
          have CR28_R4_0 := Lib.hid (hI.cell CR28_R3_0.out (fun _ h => by cases h))
          have CR28_R4_1 := Lib.hid (hI.cell CR28_R3_1.out (fun _ h => by cases h))
          have CR310_R4_0 := Lib.hid (hI.cell CR310_R3_0.out (fun _ h => by cases h))
          have CR310_R4_1 := Lib.hid (hI.cell CR310_R3_1.out (fun _ h => by cases h))
          obtain ⟨pR412, rfl, hkR412, -⟩ := r9
          obtain ⟨qR412, uR412, hqR412, -, hcR412, hrR412⟩ := r10
          rw [hkR412] at hqR412
          injection hqR412 with hqR412
          subst hqR412
          subst hrR412
          have CR412_R4_0 := Lib.hid (hcR412 0 _ rfl)
          have CR412_R4_1 := Lib.hid (hcR412 1 _ rfl)
          clear hcR412 hkR412
          subst r11
          have hBR4 := hI.below
          have HCR4 := hI.next HCR3
          clear hI
          go_upto_region 6 with (fail)
          refine box_plan0 (c := ⟨w, wR4, (fun _ => none)⟩) HCR4 [[], [(53, 0)]] [(53, 0), (4, 1)] [
              (fun v _ _ => v = .bool true),
              (fun v _ _ => v = .bool true)
            ] (fun _ => none) (by kernel_rfl) (by kernel_rfl) ⟨stab_eq, stab_eq, trivial⟩ ?steps ?fin
          case steps =>
            refine ⟨?_, ?_, trivial⟩
            · intro vs g w2 hI hF hR K hK
              simp only [Facts, fill, Act.put, z1, z2, z3, z4, z5, Nat.reduceAdd] at hF hR hK ⊢
              go_simp
              refine (gAlive6 hI hw).mono ?_
              rintro e w3 ⟨v3, rfl, hv, hb⟩
              exact hK _ _ _ (hI.call hb) (Step.call hI hb) hv
            · intro vs g w2 hI hF hR K hK
              simp only [Facts, fill, Act.put, z1, z2, z3, z4, z5, Nat.reduceAdd] at hF hR hK ⊢
              obtain ⟨r0, -⟩ := hR
              generalize vs 0 = x0 at *
              subst r0
              go_simp
              exact hK _ _ _ hI (Step.refl hI) rfl
          case fin =>
            intro vs g wR6 hI hR
            have r1 := hR 1 (by decide)
            simp only [fill, Act.put, z1, z2, z3, z4, z5] at r1 ⊢
            clear hR
            generalize vs 1 = x1 at *
            have Cabc_R6_0 := Lib.hid (hI.cell Cabc_R4_0.out (fun _ h => by cases h))
            have Cabc_R6_1 := Lib.hid (hI.cell Cabc_R4_1.out (fun _ h => by cases h))
            have Cabc_R6_2 := Lib.hid (hI.cell Cabc_R4_2.out (fun _ h => by cases h))
            have Cabc_R6_3 := Lib.hid (hI.cell Cabc_R4_3.out (fun _ h => by cases h))
            have Cabc_R6_4 := Lib.hid (hI.cell Cabc_R4_4.out (fun _ h => by cases h))
            have Cabc_R6_5 := Lib.hid (hI.cell Cabc_R4_5.out (fun _ h => by cases h))
            have Cd_R6_0 := Lib.hid (hI.cell Cd_R4_0.out (fun _ h => by cases h))
            have Cd_R6_1 := Lib.hid (hI.cell Cd_R4_1.out (fun _ h => by cases h))
            have CR15_R6_0 := Lib.hid (hI.cell CR15_R4_0.out (fun _ h => by cases h))
            have CR15_R6_1 := Lib.hid (hI.cell CR15_R4_1.out (fun _ h => by cases h))
            have CR16_R6_0 := Lib.hid (hI.cell CR16_R4_0.out (fun _ h => by cases h))
            have CR16_R6_1 := Lib.hid (hI.cell CR16_R4_1.out (fun _ h => by cases h))
            have CR17_R6_0 := Lib.hid (hI.cell CR17_R4_0.out (fun _ h => by cases h))
            have CR17_R6_1 := Lib.hid (hI.cell CR17_R4_1.out (fun _ h => by cases h))
            have CR28_R6_0 := Lib.hid (hI.cell CR28_R4_0.out (fun _ h => by cases h))
            have CR28_R6_1 := Lib.hid (hI.cell CR28_R4_1.out (fun _ h => by cases h))
            have CR310_R6_0 := Lib.hid (hI.cell CR310_R4_0.out (fun _ h => by cases h))
            have CR310_R6_1 := Lib.hid (hI.cell CR310_R4_1.out (fun _ h => by cases h))
            have CR412_R6_0 := Lib.hid (hI.cell CR412_R4_0.out (fun _ h => by cases h))
            have CR412_R6_1 := Lib.hid (hI.cell CR412_R4_1.out (fun _ h => by cases h))
            subst r1
            have hBR6 := hI.below
            have HCR6 := hI.next HCR4
            clear hI
            go_wp2
            go_ret
            exact ⟨rfl, hBR6⟩
end Go.Proofs.YthnhabfnjjbfaaaDoor
