/-
  Contracts of package orient.
-/
import Derived.Test.YtehnpmkolabiaaaDoorRef06
import Derived.Test.YtehnpmkolabiaaaDoorDiffC
namespace Go.Proofs.YtehnpmkolabiaaaDoor
open Go.RowKit
set_option maxRecDepth 100000
set_option linter.unusedVariables false
set_option linter.unusedSimpArgs false

theorem diff_bd {a b : Int} (ha : S a) (hb : S b) : -18446744073709551615 ≤ a - b ∧ a - b ≤ 18446744073709551615 := by unfold S at ha hb; omega
theorem prod_bd {a b : Int} (ha : -18446744073709551615 ≤ a ∧ a ≤ 18446744073709551615) (hb : -18446744073709551615 ≤ b ∧ b ≤ 18446744073709551615) : -340282366920938463426481119284349108225 ≤ a * b ∧ a * b ≤ 340282366920938463426481119284349108225 := by
  have h1 : a.natAbs ≤ 18446744073709551615 := by omega
  have h2 : b.natAbs ≤ 18446744073709551615 := by omega
  have h3 := Nat.mul_le_mul h1 h2
  rw [← Int.natAbs_mul] at h3
  omega
/-- The determinant's range. -/
theorem det_bd {xa ya xb yb xc yc : Int} (h1 : S xa) (h2 : S ya) (h3 : S xb) (h4 : S yb) (h5 : S xc) (h6 : S yc) : -680564733841876926852962238568698216450 ≤ det xa ya xb yb xc yc ∧ det xa ya xb yb xc yc ≤ 680564733841876926852962238568698216450 := by
  have p1 := prod_bd (diff_bd h3 h1) (diff_bd h6 h2)
  have p2 := prod_bd (diff_bd h4 h2) (diff_bd h5 h1)
  unfold det
  omega
theorem det_fit {xa ya xb yb xc yc : Int} (h1 : S xa) (h2 : S ya) (h3 : S xb) (h4 : S yb) (h5 : S xc) (h6 : S yc) : Fit 3 (det xa ya xb yb xc yc) := by
  have := det_bd h1 h2 h3 h4 h5 h6
  have e : M 3 = 6277101735386680763835789423207666416102355444464034512896 := rfl
  unfold Fit
  omega
theorem wanted_tab : (0, [Value.int .i64 1, .int .i64 0]) ∈ seatTabs := by simp [seatTabs]
theorem wanted_cell0 {w : World} (h : Wts w) : w.cell? ⟨0, 0, none⟩ = some (.int .i64 1) := h.2 _ wanted_tab 0 _ rfl
theorem wanted_cell1 {w : World} (h : Wts w) : w.cell? ⟨0, 1, none⟩ = some (.int .i64 0) := h.2 _ wanted_tab 1 _ rfl
theorem det_fit4 {xa ya xb yb xc yc : Int} (h1 : S xa) (h2 : S ya) (h3 : S xb) (h4 : S yb) (h5 : S xc) (h6 : S yc) : Fit 4 (det xa ya xb yb xc yc) := by
  have := det_bd h1 h2 h3 h4 h5 h6
  have e : M 4 = 115792089237316195423570985008687907853269984665640564039457584007913129639936 := rfl
  unfold Fit
  omega
set_option maxRecDepth 100000 in
set_option maxHeartbeats 4000000 in
theorem gOrientValue {c0 : Ctx} {g0 : Gh} {w : World} {xa ya xb yb xc yc : Int} (hI0 : RInv c0 g0 w) (hw : Wts c0.W0) (sxa : S xa) (sya : S ya) (sxb : S xb) (syb : S yb) (sxc : S xc) (syc : S yc) :
    Calls Tryd.prog 38 #[.agg #[.int .i64 xa, .int .i64 ya], .agg #[.int .i64 xb, .int .i64 yb], .agg #[.int .i64 xc, .int .i64 yc]] w (Gives (LimR 3 (det xa ya xb yb xc yc)) g0 w) := by
  have hw1 := hw.below hI0.below
  obtain ⟨W, hW⟩ : ∃ W, W = ((w.alloc (.cells #[.int .i64 xa, .int .i64 ya] 24)).alloc (.cells #[.int .i64 xb, .int .i64 yb] 24)).alloc (.cells #[.int .i64 xc, .int .i64 yc] 24) := ⟨_, rfl⟩
  have hb0 : Below w.heap.size w W := by rw [hW]; exact ((((Below.refl _ _).alloc (Nat.le_refl _) _).alloc (by simp) _).alloc (by simp; omega) _)
  have HOK := Ctx.ok_lift0 hI0 hb0
  have C0_W_0 := Lib.hid (show W.cell? ⟨w.heap.size, 0, none⟩ = some (.int .i64 xa) by rw [hW]; simp [go_sem])
  have C0_W_1 := Lib.hid (show W.cell? ⟨w.heap.size, 1, none⟩ = some (.int .i64 ya) by rw [hW]; simp [go_sem])
  have HO0 : Off (lift0 g0) (w.heap.size) := lift0_off (hI0.offs _ (by omega))
  have C1_W_0 := Lib.hid (show W.cell? ⟨w.heap.size + 1, 0, none⟩ = some (.int .i64 xb) by rw [hW]; simp [go_sem])
  have C1_W_1 := Lib.hid (show W.cell? ⟨w.heap.size + 1, 1, none⟩ = some (.int .i64 yb) by rw [hW]; simp [go_sem])
  have HO1 : Off (lift0 g0) (w.heap.size + 1) := lift0_off (hI0.offs _ (by omega))
  have C2_W_0 := Lib.hid (show W.cell? ⟨w.heap.size + 1 + 1, 0, none⟩ = some (.int .i64 xc) by rw [hW]; simp [go_sem])
  have C2_W_1 := Lib.hid (show W.cell? ⟨w.heap.size + 1 + 1, 1, none⟩ = some (.int .i64 yc) by rw [hW]; simp [go_sem])
  have HO2 : Off (lift0 g0) (w.heap.size + 1 + 1) := lift0_off (hI0.offs _ (by omega))
  have HW := Lib.hid hW
  clear hW
  go_enter Tryd.func38, Tryd.ntmps38
  go_upto_region 1 with (fail)
  rw [← HW.out]
  refine box_plan (c := ⟨w, W, (lift0 g0)⟩) HOK (by kernel_rfl) [[], [], [(7, 0), (8, 1)], [], [], [(10, 3), (11, 4)], [(9, 2), (12, 5)], [(13, 6)], [(14, 7)]] [(7, 0), (8, 1), (9, 2), (10, 3), (11, 4), (12, 5), (13, 6), (14, 7), (6, 8)] [
      (fun v _ _ => v = .agg #[.int .i64 xa, .int .i64 ya]),
      (fun v _ _ => v = .agg #[.int .i64 xb, .int .i64 yb]),
      VecL (xb - xa) (yb - ya),
      (fun v _ _ => v = .agg #[.int .i64 xa, .int .i64 ya]),
      (fun v _ _ => v = .agg #[.int .i64 xc, .int .i64 yc]),
      VecL (xc - xa) (yc - ya),
      LimR 4 ((xb - xa) * (yc - ya) - (yb - ya) * (xc - xa)),
      LimR 3 (det xa ya xb yb xc yc),
      LimR 3 (det xa ya xb yb xc yc)
    ] (fun _ => none) (by kernel_rfl) (by kernel_rfl) ⟨stab_eq, stab_eq, stab_firm (vecL_firm _ _), stab_eq, stab_eq, stab_firm (vecL_firm _ _), stab_firm (limR_firm _ _), stab_firm (limR_firm _ _), stab_firm (limR_firm _ _), trivial⟩ ?steps ?fin
  case steps =>
    refine ⟨?_, ?_, ?_, ?_, ?_, ?_, ?_, ?_, ?_, trivial⟩
    · intro vs g w2 hI hF hR K hK
      simp only [Facts, fill, Act.put, z1, z2, z3, z4, z5, Nat.reduceAdd] at hF hR hK ⊢
      have k0 := hI.cell C0_W_0.out (by first | exact HO0 | exact HO1 | exact HO2 | assumption)
      have k1 := hI.cell C0_W_1.out (by first | exact HO0 | exact HO1 | exact HO2 | assumption)
      go_simp
      exact hK _ _ _ hI (Step.refl hI) rfl
    · intro vs g w2 hI hF hR K hK
      simp only [Facts, fill, Act.put, z1, z2, z3, z4, z5, Nat.reduceAdd] at hF hR hK ⊢
      have k0 := hI.cell C1_W_0.out (by first | exact HO0 | exact HO1 | exact HO2 | assumption)
      have k1 := hI.cell C1_W_1.out (by first | exact HO0 | exact HO1 | exact HO2 | assumption)
      go_simp
      exact hK _ _ _ hI (Step.refl hI) rfl
    · intro vs g w2 hI hF hR K hK
      simp only [Facts, fill, Act.put, z1, z2, z3, z4, z5, Nat.reduceAdd] at hF hR hK ⊢
      obtain ⟨r0, r1, -⟩ := hR
      generalize vs 0 = x0, vs 1 = x1 at *
      subst r0 r1
      go_simp
      refine (gBetween hI hw1 (by first | assumption | (unfold S; decide)) (by first | assumption | (unfold S; decide)) (by first | assumption | (unfold S; decide)) (by first | assumption | (unfold S; decide))).mono ?_
      rintro e w3 ⟨v3, rfl, hv, hb⟩
      exact hK _ _ _ (hI.call hb) (Step.call hI hb) hv
    · intro vs g w2 hI hF hR K hK
      simp only [Facts, fill, Act.put, z1, z2, z3, z4, z5, Nat.reduceAdd] at hF hR hK ⊢
      have k0 := hI.cell C0_W_0.out (by first | exact HO0 | exact HO1 | exact HO2 | assumption)
      have k1 := hI.cell C0_W_1.out (by first | exact HO0 | exact HO1 | exact HO2 | assumption)
      go_simp
      exact hK _ _ _ hI (Step.refl hI) rfl
    · intro vs g w2 hI hF hR K hK
      simp only [Facts, fill, Act.put, z1, z2, z3, z4, z5, Nat.reduceAdd] at hF hR hK ⊢
      have k0 := hI.cell C2_W_0.out (by first | exact HO0 | exact HO1 | exact HO2 | assumption)
      have k1 := hI.cell C2_W_1.out (by first | exact HO0 | exact HO1 | exact HO2 | assumption)
      go_simp
      exact hK _ _ _ hI (Step.refl hI) rfl
    · intro vs g w2 hI hF hR K hK
      simp only [Facts, fill, Act.put, z1, z2, z3, z4, z5, Nat.reduceAdd] at hF hR hK ⊢
      obtain ⟨r3, r4, -⟩ := hR
      generalize vs 3 = x3, vs 4 = x4 at *
      subst r3 r4
      go_simp
      refine (gBetween hI hw1 (by first | assumption | (unfold S; decide)) (by first | assumption | (unfold S; decide)) (by first | assumption | (unfold S; decide)) (by first | assumption | (unfold S; decide))).mono ?_
      rintro e w3 ⟨v3, rfl, hv, hb⟩
      exact hK _ _ _ (hI.call hb) (Step.call hI hb) hv
    · intro vs g w2 hI hF hR K hK
      simp only [Facts, fill, Act.put, z1, z2, z3, z4, z5, Nat.reduceAdd] at hF hR hK ⊢
      obtain ⟨r2, r5, -⟩ := hR
      generalize vs 2 = x2, vs 5 = x5 at *
      go_simp
      refine (gCross hI hw1 r2 r5 (by first | exact HE0.out | exact HE1.out | exact HE2.out | exact HE3.out | exact Fit.sv (by repeat first | exact S.diff (by first | assumption | (unfold S; decide)) (by first | assumption | (unfold S; decide)) | apply Fit.neg | (unfold Fit; decide +kernel))) (by first | exact HE0.out | exact HE1.out | exact HE2.out | exact HE3.out | exact Fit.sv (by repeat first | exact S.diff (by first | assumption | (unfold S; decide)) (by first | assumption | (unfold S; decide)) | apply Fit.neg | (unfold Fit; decide +kernel))) (by first | exact HE0.out | exact HE1.out | exact HE2.out | exact HE3.out | exact Fit.sv (by repeat first | exact S.diff (by first | assumption | (unfold S; decide)) (by first | assumption | (unfold S; decide)) | apply Fit.neg | (unfold Fit; decide +kernel))) (by first | exact HE0.out | exact HE1.out | exact HE2.out | exact HE3.out | exact Fit.sv (by repeat first | exact S.diff (by first | assumption | (unfold S; decide)) (by first | assumption | (unfold S; decide)) | apply Fit.neg | (unfold Fit; decide +kernel)))).mono ?_
      rintro e w3 ⟨v3, rfl, hv, hb⟩
      exact hK _ _ _ (hI.call hb) (Step.call hI hb) hv
    · intro vs g w2 hI hF hR K hK
      simp only [Facts, fill, Act.put, z1, z2, z3, z4, z5, Nat.reduceAdd] at hF hR hK ⊢
      obtain ⟨r6, -⟩ := hR
      generalize vs 6 = x6 at *
      go_simp
      refine (gLimExtend (m := 3) hI hw1 r6 (Fit.sv (det_fit4 (by first | assumption | (unfold S; decide)) (by first | assumption | (unfold S; decide)) (by first | assumption | (unfold S; decide)) (by first | assumption | (unfold S; decide)) (by first | assumption | (unfold S; decide)) (by first | assumption | (unfold S; decide)))) (by decide) (by decide) (by decide) (by decide)).mono ?_
      rintro e w3 ⟨v3, rfl, hv, hb⟩
      exact hK _ _ _ (hI.call hb) (Step.call hI hb) hv
    · intro vs g w2 hI hF hR K hK
      simp only [Facts, fill, Act.put, z1, z2, z3, z4, z5, Nat.reduceAdd] at hF hR hK ⊢
      obtain ⟨r7, -⟩ := hR
      generalize vs 7 = x7 at *
      go_simp
      exact hK _ _ _ hI (Step.refl hI) r7
  case fin =>
    intro vs g wR1 hI hR
    have r8 := hR 8 (by decide)
    simp only [fill, Act.put, z1, z2, z3, z4, z5] at r8 ⊢
    clear hR
    generalize vs 8 = x8 at *
    have C0_R1_0 := Lib.hid (hI.cell C0_W_0.out (by first | exact HO0 | exact HO1 | exact HO2 | assumption))
    have C0_R1_1 := Lib.hid (hI.cell C0_W_1.out (by first | exact HO0 | exact HO1 | exact HO2 | assumption))
    have C1_R1_0 := Lib.hid (hI.cell C1_W_0.out (by first | exact HO0 | exact HO1 | exact HO2 | assumption))
    have C1_R1_1 := Lib.hid (hI.cell C1_W_1.out (by first | exact HO0 | exact HO1 | exact HO2 | assumption))
    have C2_R1_0 := Lib.hid (hI.cell C2_W_0.out (by first | exact HO0 | exact HO1 | exact HO2 | assumption))
    have C2_R1_1 := Lib.hid (hI.cell C2_W_1.out (by first | exact HO0 | exact HO1 | exact HO2 | assumption))
    have qfR16 := r8
    obtain ⟨AvR16, cvR16, rfl⟩ := limR_open r8
    have FR16_R1_0 := Lib.hid ((limR_firm _ _) _ _ _ _ _ qfR16 hI.back)
    clear qfR16
    have hBR1 := hI.below
    have HCR1 := hI.next HOK
    clear hI
    go_wp2
    go_ret
    exact ⟨_, rfl, (limR_firm _ _) _ _ _ _ _ FR16_R1_0.out keeps_out0, hBR1⟩
set_option maxRecDepth 100000 in
set_option maxHeartbeats 4000000 in
theorem gOrientSign {c0 : Ctx} {g0 : Gh} {w : World} {xa ya xb yb xc yc : Int} (hI0 : RInv c0 g0 w) (hw : Wts c0.W0) (sxa : S xa) (sya : S ya) (sxb : S xb) (syb : S yb) (sxc : S xc) (syc : S yc) :
    Calls Tryd.prog 30 #[.agg #[.int .i64 xa, .int .i64 ya], .agg #[.int .i64 xb, .int .i64 yb], .agg #[.int .i64 xc, .int .i64 yc]] w (Gives (SignR (det xa ya xb yb xc yc)) g0 w) := by
  have hw1 := hw.below hI0.below
  obtain ⟨W, hW⟩ : ∃ W, W = ((w.alloc (.cells #[.int .i64 xa, .int .i64 ya] 24)).alloc (.cells #[.int .i64 xb, .int .i64 yb] 24)).alloc (.cells #[.int .i64 xc, .int .i64 yc] 24) := ⟨_, rfl⟩
  have hb0 : Below w.heap.size w W := by rw [hW]; exact ((((Below.refl _ _).alloc (Nat.le_refl _) _).alloc (by simp) _).alloc (by simp; omega) _)
  have HOK := Ctx.ok_lift0 hI0 hb0
  have C0_W_0 := Lib.hid (show W.cell? ⟨w.heap.size, 0, none⟩ = some (.int .i64 xa) by rw [hW]; simp [go_sem])
  have C0_W_1 := Lib.hid (show W.cell? ⟨w.heap.size, 1, none⟩ = some (.int .i64 ya) by rw [hW]; simp [go_sem])
  have HO0 : Off (lift0 g0) (w.heap.size) := lift0_off (hI0.offs _ (by omega))
  have C1_W_0 := Lib.hid (show W.cell? ⟨w.heap.size + 1, 0, none⟩ = some (.int .i64 xb) by rw [hW]; simp [go_sem])
  have C1_W_1 := Lib.hid (show W.cell? ⟨w.heap.size + 1, 1, none⟩ = some (.int .i64 yb) by rw [hW]; simp [go_sem])
  have HO1 : Off (lift0 g0) (w.heap.size + 1) := lift0_off (hI0.offs _ (by omega))
  have C2_W_0 := Lib.hid (show W.cell? ⟨w.heap.size + 1 + 1, 0, none⟩ = some (.int .i64 xc) by rw [hW]; simp [go_sem])
  have C2_W_1 := Lib.hid (show W.cell? ⟨w.heap.size + 1 + 1, 1, none⟩ = some (.int .i64 yc) by rw [hW]; simp [go_sem])
  have HO2 : Off (lift0 g0) (w.heap.size + 1 + 1) := lift0_off (hI0.offs _ (by omega))
  have HW := Lib.hid hW
  clear hW
  go_enter Tryd.func30, Tryd.ntmps30
  go_upto_region 1 with (fail)
  rw [← HW.out]
  refine box_plan0 (c := ⟨w, W, (lift0 g0)⟩) HOK [[], [], [], [(7, 0), (8, 1), (9, 2)], [(10, 3)], [(11, 4)]] [(7, 0), (8, 1), (9, 2), (10, 3), (11, 4), (6, 5)] [
      (fun v _ _ => v = .agg #[.int .i64 xa, .int .i64 ya]),
      (fun v _ _ => v = .agg #[.int .i64 xb, .int .i64 yb]),
      (fun v _ _ => v = .agg #[.int .i64 xc, .int .i64 yc]),
      LimR 3 (det xa ya xb yb xc yc),
      SignR (det xa ya xb yb xc yc),
      SignR (det xa ya xb yb xc yc)
    ] (fun _ => none) (by kernel_rfl) (by kernel_rfl) ⟨stab_eq, stab_eq, stab_eq, stab_firm (limR_firm _ _), stab_firm (signR_firm _), stab_firm (signR_firm _), trivial⟩ ?steps ?fin
  case steps =>
    refine ⟨?_, ?_, ?_, ?_, ?_, ?_, trivial⟩
    · intro vs g w2 hI hF hR K hK
      simp only [Facts, fill, Act.put, z1, z2, z3, z4, z5, Nat.reduceAdd] at hF hR hK ⊢
      have k0 := hI.cell C0_W_0.out (by first | exact HO0 | exact HO1 | exact HO2 | assumption)
      have k1 := hI.cell C0_W_1.out (by first | exact HO0 | exact HO1 | exact HO2 | assumption)
      go_simp
      exact hK _ _ _ hI (Step.refl hI) rfl
    · intro vs g w2 hI hF hR K hK
      simp only [Facts, fill, Act.put, z1, z2, z3, z4, z5, Nat.reduceAdd] at hF hR hK ⊢
      have k0 := hI.cell C1_W_0.out (by first | exact HO0 | exact HO1 | exact HO2 | assumption)
      have k1 := hI.cell C1_W_1.out (by first | exact HO0 | exact HO1 | exact HO2 | assumption)
      go_simp
      exact hK _ _ _ hI (Step.refl hI) rfl
    · intro vs g w2 hI hF hR K hK
      simp only [Facts, fill, Act.put, z1, z2, z3, z4, z5, Nat.reduceAdd] at hF hR hK ⊢
      have k0 := hI.cell C2_W_0.out (by first | exact HO0 | exact HO1 | exact HO2 | assumption)
      have k1 := hI.cell C2_W_1.out (by first | exact HO0 | exact HO1 | exact HO2 | assumption)
      go_simp
      exact hK _ _ _ hI (Step.refl hI) rfl
    · intro vs g w2 hI hF hR K hK
      simp only [Facts, fill, Act.put, z1, z2, z3, z4, z5, Nat.reduceAdd] at hF hR hK ⊢
      obtain ⟨r0, r1, r2, -⟩ := hR
      generalize vs 0 = x0, vs 1 = x1, vs 2 = x2 at *
      subst r0 r1 r2
      go_simp
      refine (gOrientValue hI hw1 (by first | assumption | (unfold S; decide)) (by first | assumption | (unfold S; decide)) (by first | assumption | (unfold S; decide)) (by first | assumption | (unfold S; decide)) (by first | assumption | (unfold S; decide)) (by first | assumption | (unfold S; decide))).mono ?_
      rintro e w3 ⟨v3, rfl, hv, hb⟩
      exact hK _ _ _ (hI.call hb) (Step.call hI hb) hv
    · intro vs g w2 hI hF hR K hK
      simp only [Facts, fill, Act.put, z1, z2, z3, z4, z5, Nat.reduceAdd] at hF hR hK ⊢
      obtain ⟨r3, -⟩ := hR
      generalize vs 3 = x3 at *
      go_simp
      refine (gLimSign hI hw1 r3 (Fit.sv (det_fit (by first | assumption | (unfold S; decide)) (by first | assumption | (unfold S; decide)) (by first | assumption | (unfold S; decide)) (by first | assumption | (unfold S; decide)) (by first | assumption | (unfold S; decide)) (by first | assumption | (unfold S; decide)))) (by decide) (by decide)).mono ?_
      rintro e w3 ⟨v3, rfl, hv, hb⟩
      exact hK _ _ _ (hI.call hb) (Step.call hI hb) hv
    · intro vs g w2 hI hF hR K hK
      simp only [Facts, fill, Act.put, z1, z2, z3, z4, z5, Nat.reduceAdd] at hF hR hK ⊢
      obtain ⟨r4, -⟩ := hR
      generalize vs 4 = x4 at *
      go_simp
      exact hK _ _ _ hI (Step.refl hI) r4
  case fin =>
    intro vs g wR1 hI hR
    have r5 := hR 5 (by decide)
    simp only [fill, Act.put, z1, z2, z3, z4, z5] at r5 ⊢
    clear hR
    generalize vs 5 = x5 at *
    have C0_R1_0 := Lib.hid (hI.cell C0_W_0.out (by first | exact HO0 | exact HO1 | exact HO2 | assumption))
    have C0_R1_1 := Lib.hid (hI.cell C0_W_1.out (by first | exact HO0 | exact HO1 | exact HO2 | assumption))
    have C1_R1_0 := Lib.hid (hI.cell C1_W_0.out (by first | exact HO0 | exact HO1 | exact HO2 | assumption))
    have C1_R1_1 := Lib.hid (hI.cell C1_W_1.out (by first | exact HO0 | exact HO1 | exact HO2 | assumption))
    have C2_R1_0 := Lib.hid (hI.cell C2_W_0.out (by first | exact HO0 | exact HO1 | exact HO2 | assumption))
    have C2_R1_1 := Lib.hid (hI.cell C2_W_1.out (by first | exact HO0 | exact HO1 | exact HO2 | assumption))
    have qfR16 := r5
    obtain ⟨svR16, rfl, -⟩ := signR_open r5
    have FR16_R1_0 := Lib.hid ((signR_firm _) _ _ _ _ _ qfR16 hI.back)
    clear qfR16
    have hBR1 := hI.below
    have HCR1 := hI.next HOK
    clear hI
    go_wp2
    go_ret
    exact ⟨_, rfl, (signR_firm _) _ _ _ _ _ FR16_R1_0.out keeps_out0, hBR1⟩
theorem gIsOr {c : Ctx} {g : Gh} {w : World} {o xa ya xb yb xc yc : Int} (hI : RInv c g w) (hw : Wts c.W0) (sxa : S xa) (sya : S ya) (sxb : S xb) (syb : S yb) (sxc : S xc) (syc : S yc) :
    Calls Tryd.prog 27 #[.int .i64 o, .agg #[.int .i64 xa, .int .i64 ya], .agg #[.int .i64 xb, .int .i64 yb], .agg #[.int .i64 xc, .int .i64 yc]] w (Gives (fun v _ _ => v = .int .u64 (mk (decide (IntKind.u64.wrap (det xa ya xb yb xc yc).sign = IntKind.u64.wrap o)))) g w) := by
  have hb0 : Below w.heap.size w (((w.alloc (.cells #[.int .i64 xa, .int .i64 ya] 24)).alloc (.cells #[.int .i64 xb, .int .i64 yb] 24)).alloc (.cells #[.int .i64 xc, .int .i64 yc] 24)) := (((Below.refl _ _).alloc (Nat.le_refl _) _).alloc (by simp) _).alloc (by simp; omega) _
  have hI2 := hI.call hb0
  go_enter Tryd.func27, Tryd.ntmps27
  go_wp2_with (fail)
  refine (gOrientSign hI2 hw sxa sya sxb syb sxc syc).mono ?_
  rintro e w' ⟨v, rfl, ⟨s, rfl, hs⟩, hb⟩
  have HS := Lib.hid hs
  clear hs
  go_wp2_with (fail)
  refine (equal_any _ _ (U_wrap _) (U_wrap _) _ (hw.below (hI2.call hb).below)).mono ?_
  rintro e w'' ⟨rfl, n, rfl⟩
  go_wp2
  go_ret
  exact ⟨_, rfl, congrArg (fun z => Value.int .u64 (mk (decide (IntKind.u64.wrap z = IntKind.u64.wrap o)))) HS.out, below_drewN' (hb0.trans (hb.mono hb0.size)) n⟩
theorem is_Left (x : Int) : mk (decide (IntKind.u64.wrap x.sign = IntKind.u64.wrap 1)) = mk (decide (0 < x)) := by
  congr 1
  rcases Int.lt_trichotomy x 0 with h | h | h
  · rw [Int.sign_eq_neg_one_of_neg h]; rw [show (decide (0 < x)) = false from decide_eq_false (by omega)]; decide +kernel
  · subst h; decide +kernel
  · rw [Int.sign_eq_one_of_pos h]; rw [show (decide (0 < x)) = true from decide_eq_true h]; decide +kernel
theorem is_Collinear (x : Int) : mk (decide (IntKind.u64.wrap x.sign = IntKind.u64.wrap 0)) = mk (decide (x = 0)) := by
  congr 1
  rcases Int.lt_trichotomy x 0 with h | h | h
  · rw [Int.sign_eq_neg_one_of_neg h]; rw [show (decide (x = 0)) = false from decide_eq_false (by omega)]; decide +kernel
  · subst h; decide +kernel
  · rw [Int.sign_eq_one_of_pos h]; rw [show (decide (x = 0)) = false from decide_eq_false (by omega)]; decide +kernel
theorem gOrientCollinear {c : Ctx} {g : Gh} {w : World} {xa ya xb yb xc yc : Int} (hI : RInv c g w) (hw : Wts c.W0) (sxa : S xa) (sya : S ya) (sxb : S xb) (syb : S yb) (sxc : S xc) (syc : S yc) :
    Calls Tryd.prog 20 #[.agg #[.int .i64 xa, .int .i64 ya], .agg #[.int .i64 xb, .int .i64 yb], .agg #[.int .i64 xc, .int .i64 yc]] w (Gives (fun v _ _ => v = .int .u64 (mk (decide (det xa ya xb yb xc yc = 0)))) g w) := by
  have hc := wanted_cell1 (hw.below hI.below)
  have hb0 : Below w.heap.size w (((w.alloc (.cells #[.int .i64 xa, .int .i64 ya] 24)).alloc (.cells #[.int .i64 xb, .int .i64 yb] 24)).alloc (.cells #[.int .i64 xc, .int .i64 yc] 24)) := (((Below.refl _ _).alloc (Nat.le_refl _) _).alloc (by simp) _).alloc (by simp; omega) _
  have hc1 : (((w.alloc (.cells #[.int .i64 xa, .int .i64 ya] 24)).alloc (.cells #[.int .i64 xb, .int .i64 yb] 24)).alloc (.cells #[.int .i64 xc, .int .i64 yc] 24)).cell? ⟨0, 1, none⟩ = some (.int .i64 0) := (hb0.cell (p := ⟨0, 1, none⟩) (cell_lt hc)).trans hc
  have hI2 := hI.call hb0
  go_enter Tryd.func20, Tryd.ntmps20
  go_wp2_with (fail)
  refine (gIsOr hI2 hw sxa sya sxb syb sxc syc).mono ?_
  rintro e w' ⟨v, rfl, rfl, hb⟩
  go_wp2
  go_ret
  exact ⟨_, rfl, congrArg (Value.int .u64) (is_Collinear _), hb0.trans (hb.mono hb0.size)⟩
end Go.Proofs.YtehnpmkolabiaaaDoor
