/-
  The reference of layer 6. (Written by law5.py.)
-/
import Derived.Test.YtehnpmkolabiaaaDoorGen3
namespace Go.Proofs.YtehnpmkolabiaaaDoor
open Go.RowKit
set_option maxRecDepth 100000
set_option linter.unusedVariables false
set_option linter.unusedSimpArgs false

set_option maxRecDepth 100000 in
set_option maxHeartbeats 4000000 in
theorem gRef6product {c0 : Ctx} {g0 : Gh} {w : World} {a b : Int} (hI0 : RInv c0 g0 w) (sa : S a) (sb : S b) :
    Calls Tryd.prog 47 #[.int .i64 a, .int .i64 b] w (Gives (NumG 8 (a * b)) g0 w) := by
  obtain ⟨W, hW⟩ : ∃ W, W = w.alloc (.cells #[.int .i64 0, .slice none 0 0] 62) := ⟨_, rfl⟩
  have hb0 : Below w.heap.size w W := by rw [hW]; exact ((Below.refl _ _).alloc (Nat.le_refl _) _)
  have HOK := Ctx.ok_lift (k := w.heap.size) hI0 hb0 (by omega) (by rw [hW]; simp; try omega)
  have HBX := Lib.hid (show HasBox W (w.heap.size) 2 by rw [hW]; have := box2' (w) (.int .i64 0) (.slice none 0 0) 62; simpa using this)
  have HW := Lib.hid hW
  clear hW
  go_enter Tryd.func47, Tryd.ntmps47
  go_upto_region 1 with (fail)
  rw [← HW.out]
  refine box_plan0 (c := ⟨w, W, (lift g0 (w.heap.size))⟩) HOK [[], [(5, 0)], [], [(7, 2)], [(6, 1), (8, 3)], [(9, 4)]] [(5, 0), (6, 1), (7, 2), (8, 3), (9, 4)] [
      (fun v _ _ => v = .int .i64 a),
      NumG 4 a,
      (fun v _ _ => v = .int .i64 b),
      NumG 4 b,
      NumG 8 (a * b),
      (fun _ g w => BoxR 1000 (NumG 8 (a * b)) g w)
    ] (fun i => match i with | 1000 => some 5 | _ => none) (by kernel_rfl) (by kernel_rfl) ⟨stab_eq, stab_firm (numG_firm _ _), stab_eq, stab_firm (numG_firm _ _), stab_firm (numG_firm _ _), stab_box (numG_firm _ _) rfl, trivial⟩ ?steps ?fin
  case steps =>
    refine ⟨?_, ?_, ?_, ?_, ?_, ?_, trivial⟩
    · intro vs g w2 hI hF hR K hK
      simp only [Facts, fill, Act.put, z1, z2, z3, z4, z5, Nat.reduceAdd] at hF hR hK ⊢
      go_simp
      exact hK _ _ _ hI (Step.refl hI) rfl
    · intro vs g w2 hI hF hR K hK
      simp only [Facts, fill, Act.put, z1, z2, z3, z4, z5, Nat.reduceAdd] at hF hR hK ⊢
      obtain ⟨r0, -⟩ := hR
      generalize vs 0 = x0 at *
      subst r0
      go_simp
      refine (gInt hI (by first | assumption | (unfold S; decide))).mono ?_
      rintro e w3 ⟨v3, rfl, hv, hb⟩
      exact hK _ _ _ (hI.call hb) (Step.call hI hb) hv
    · intro vs g w2 hI hF hR K hK
      simp only [Facts, fill, Act.put, z1, z2, z3, z4, z5, Nat.reduceAdd] at hF hR hK ⊢
      go_simp
      exact hK _ _ _ hI (Step.refl hI) rfl
    · intro vs g w2 hI hF hR K hK
      simp only [Facts, fill, Act.put, z1, z2, z3, z4, z5, Nat.reduceAdd] at hF hR hK ⊢
      obtain ⟨r2, -⟩ := hR
      generalize vs 2 = x2 at *
      subst r2
      go_simp
      refine (gInt hI (by first | assumption | (unfold S; decide))).mono ?_
      rintro e w3 ⟨v3, rfl, hv, hb⟩
      exact hK _ _ _ (hI.call hb) (Step.call hI hb) hv
    · intro vs g w2 hI hF hR K hK
      simp only [Facts, fill, Act.put, z1, z2, z3, z4, z5, Nat.reduceAdd] at hF hR hK ⊢
      obtain ⟨r1, r3, -⟩ := hR
      generalize vs 1 = x1, vs 3 = x3 at *
      go_simp
      refine (gMul hI r1 r3 (by decide) (by decide)).mono ?_
      rintro e w3 ⟨v3, rfl, hv, hb⟩
      exact hK _ _ _ (hI.call hb) (Step.call hI hb) hv
    · intro vs g w2 hI hF hR K hK
      simp only [Facts, fill, Act.put, z1, z2, z3, z4, z5, Nat.reduceAdd] at hF hR hK ⊢
      obtain ⟨r4, -⟩ := hR
      generalize vs 4 = x4 at *
      have hk := hI.keep0 1000 _ (lift_at g0 (w.heap.size))
      have hbx := hI.box0 1000 _ 2 (lift_at g0 (w.heap.size)) HBX.out
      have qx := r4
      obtain ⟨s5, A5, n5, c5, rfl, hs5⟩ := numG_open r4
      obtain ⟨⟨u0, k0⟩, f0⟩ := hbx 0 (by decide)
      obtain ⟨⟨u1, k1⟩, f1⟩ := hbx 1 (by decide)
      go_simp
      have ht := (((Touch.refl w2 w.heap.size).set 0 (.int .i64 s5)).set 1 (.slice A5 n5 c5))
      exact hK undef _ _ (hI.store (by decide) hk ht) (Step.store hI rfl hk ht) ⟨w.heap.size, .agg #[.int .i64 s5, .slice A5 n5 c5], hk, by rw [ht.size]; exact hI.lt _ _ hk, cells2 k0 k1 (.int .i64 s5) (.slice A5 n5 c5), ((numG_firm _ _) _ _ _ _ _ qx (ht.keeps hk))⟩
  case fin =>
    intro vs g wR1 hI hR
    have r5 := hR 5 (by decide)
    simp only [fill, Act.put, z1, z2, z3, z4, z5] at r5 ⊢
    clear hR
    generalize vs 5 = x5 at *
    have hkR14 := hI.keep0 1000 _ (lift_at g0 (w.heap.size))
    obtain ⟨qR14, uR14, hqR14, -, hcR14, hrR14⟩ := r5
    rw [hkR14] at hqR14
    injection hqR14 with hqR14
    subst hqR14
    have qfR14 := hrR14
    obtain ⟨svR14, AvR14, nvR14, cvR14, rfl, hsvR14⟩ := numG_open hrR14
    have FR14_R1_0 := Lib.hid ((numG_firm _ _) _ _ _ _ _ qfR14 hI.back)
    clear qfR14
    have FR14_R1_1 := Lib.hid (numG_sign FR14_R1_0.out)
    have CR14_R1_0 := Lib.hid (hcR14 0 _ rfl)
    have CR14_R1_1 := Lib.hid (hcR14 1 _ rfl)
    clear hcR14 hkR14
    have hBR1 := hI.below
    have HCR1 := hI.next HOK
    clear hI
    go_wp2
    exact bodyPost_ret (v := .agg #[.int .i64 svR14, .slice AvR14 nvR14 cvR14]) (by simp [results, Tryd.results47, go_sem, CR14_R1_0.out, CR14_R1_1.out]) rfl ⟨_, rfl, (numG_firm _ _) _ _ _ _ _ FR14_R1_0.out keeps_out, hBR1⟩
set_option maxRecDepth 100000 in
set_option maxHeartbeats 4000000 in
theorem gRef6minor {c0 : Ctx} {g0 : Gh} {w : World} {xa ya xb yb : Int} (hI0 : RInv c0 g0 w) (sxa : S xa) (sya : S ya) (sxb : S xb) (syb : S yb) :
    Calls Tryd.prog 35 #[.agg #[.int .i64 xa, .int .i64 ya], .agg #[.int .i64 xb, .int .i64 yb]] w (Gives (NumG 9 (xa * yb - ya * xb)) g0 w) := by
  obtain ⟨W, hW⟩ : ∃ W, W = ((w.alloc (.cells #[.int .i64 xa, .int .i64 ya] 24)).alloc (.cells #[.int .i64 xb, .int .i64 yb] 24)).alloc (.cells #[.int .i64 0, .slice none 0 0] 62) := ⟨_, rfl⟩
  have hb0 : Below w.heap.size w W := by rw [hW]; exact ((((Below.refl _ _).alloc (Nat.le_refl _) _).alloc (by simp) _).alloc (by simp; omega) _)
  have HOK := Ctx.ok_lift (k := w.heap.size + 1 + 1) hI0 hb0 (by omega) (by rw [hW]; simp; try omega)
  have HBX := Lib.hid (show HasBox W (w.heap.size + 1 + 1) 2 by rw [hW]; have := box2' ((w.alloc (.cells #[.int .i64 xa, .int .i64 ya] 24)).alloc (.cells #[.int .i64 xb, .int .i64 yb] 24)) (.int .i64 0) (.slice none 0 0) 62; simpa using this)
  have C0_W_0 := Lib.hid (show W.cell? ⟨w.heap.size, 0, none⟩ = some (.int .i64 xa) by rw [hW]; simp [go_sem])
  have C0_W_1 := Lib.hid (show W.cell? ⟨w.heap.size, 1, none⟩ = some (.int .i64 ya) by rw [hW]; simp [go_sem])
  have HO0 : Off (lift g0 (w.heap.size + 1 + 1)) (w.heap.size) := lift_off (hI0.offs _ (by omega)) (by omega)
  have C1_W_0 := Lib.hid (show W.cell? ⟨w.heap.size + 1, 0, none⟩ = some (.int .i64 xb) by rw [hW]; simp [go_sem])
  have C1_W_1 := Lib.hid (show W.cell? ⟨w.heap.size + 1, 1, none⟩ = some (.int .i64 yb) by rw [hW]; simp [go_sem])
  have HO1 : Off (lift g0 (w.heap.size + 1 + 1)) (w.heap.size + 1) := lift_off (hI0.offs _ (by omega)) (by omega)
  have HW := Lib.hid hW
  clear hW
  go_enter Tryd.func35, Tryd.ntmps35
  go_upto_region 1 with (fail)
  rw [← HW.out]
  refine box_plan (c := ⟨w, W, (lift g0 (w.heap.size + 1 + 1))⟩) HOK (by kernel_rfl) [[], [(5, 0)], [], [(7, 2)], [(6, 1), (8, 3)], [], [(10, 5)], [], [(12, 7)], [(11, 6), (13, 8)], [(9, 4), (14, 9)], [(15, 10)]] [(5, 0), (6, 1), (7, 2), (8, 3), (9, 4), (10, 5), (11, 6), (12, 7), (13, 8), (14, 9), (15, 10)] [
      (fun v _ _ => v = .pointer (some ⟨w.heap.size, 0, none⟩)),
      (fun v _ _ => v = .int .i64 xa),
      (fun v _ _ => v = .pointer (some ⟨w.heap.size + 1, 1, none⟩)),
      (fun v _ _ => v = .int .i64 yb),
      NumG 8 (xa * yb),
      (fun v _ _ => v = .pointer (some ⟨w.heap.size, 1, none⟩)),
      (fun v _ _ => v = .int .i64 ya),
      (fun v _ _ => v = .pointer (some ⟨w.heap.size + 1, 0, none⟩)),
      (fun v _ _ => v = .int .i64 xb),
      NumG 8 (ya * xb),
      NumG 9 ((xa * yb) - (ya * xb)),
      (fun _ g w => BoxR 1000 (NumG 9 ((xa * yb) - (ya * xb))) g w)
    ] (fun i => match i with | 1000 => some 11 | _ => none) (by kernel_rfl) (by kernel_rfl) ⟨stab_eq, stab_eq, stab_eq, stab_eq, stab_firm (numG_firm _ _), stab_eq, stab_eq, stab_eq, stab_eq, stab_firm (numG_firm _ _), stab_firm (numG_firm _ _), stab_box (numG_firm _ _) rfl, trivial⟩ ?steps ?fin
  case steps =>
    refine ⟨?_, ?_, ?_, ?_, ?_, ?_, ?_, ?_, ?_, ?_, ?_, ?_, trivial⟩
    · intro vs g w2 hI hF hR K hK
      simp only [Facts, fill, Act.put, z1, z2, z3, z4, z5, Nat.reduceAdd] at hF hR hK ⊢
      go_simp
      exact hK _ _ _ hI (Step.refl hI) rfl
    · intro vs g w2 hI hF hR K hK
      simp only [Facts, fill, Act.put, z1, z2, z3, z4, z5, Nat.reduceAdd] at hF hR hK ⊢
      obtain ⟨r0, -⟩ := hR
      generalize vs 0 = x0 at *
      subst r0
      have k0 := hI.cell C0_W_0.out (by first | exact HO0 | exact HO1 | assumption)
      go_simp
      exact hK _ _ _ hI (Step.refl hI) rfl
    · intro vs g w2 hI hF hR K hK
      simp only [Facts, fill, Act.put, z1, z2, z3, z4, z5, Nat.reduceAdd] at hF hR hK ⊢
      go_simp
      exact hK _ _ _ hI (Step.refl hI) rfl
    · intro vs g w2 hI hF hR K hK
      simp only [Facts, fill, Act.put, z1, z2, z3, z4, z5, Nat.reduceAdd] at hF hR hK ⊢
      obtain ⟨r2, -⟩ := hR
      generalize vs 2 = x2 at *
      subst r2
      have k0 := hI.cell C1_W_1.out (by first | exact HO0 | exact HO1 | assumption)
      go_simp
      exact hK _ _ _ hI (Step.refl hI) rfl
    · intro vs g w2 hI hF hR K hK
      simp only [Facts, fill, Act.put, z1, z2, z3, z4, z5, Nat.reduceAdd] at hF hR hK ⊢
      obtain ⟨r1, r3, -⟩ := hR
      generalize vs 1 = x1, vs 3 = x3 at *
      subst r1 r3
      go_simp
      refine (gRef6product hI (by first | assumption | (unfold S; decide)) (by first | assumption | (unfold S; decide))).mono ?_
      rintro e w3 ⟨v3, rfl, hv, hb⟩
      exact hK _ _ _ (hI.call hb) (Step.call hI hb) hv
    · intro vs g w2 hI hF hR K hK
      simp only [Facts, fill, Act.put, z1, z2, z3, z4, z5, Nat.reduceAdd] at hF hR hK ⊢
      go_simp
      exact hK _ _ _ hI (Step.refl hI) rfl
    · intro vs g w2 hI hF hR K hK
      simp only [Facts, fill, Act.put, z1, z2, z3, z4, z5, Nat.reduceAdd] at hF hR hK ⊢
      obtain ⟨r5, -⟩ := hR
      generalize vs 5 = x5 at *
      subst r5
      have k0 := hI.cell C0_W_1.out (by first | exact HO0 | exact HO1 | assumption)
      go_simp
      exact hK _ _ _ hI (Step.refl hI) rfl
    · intro vs g w2 hI hF hR K hK
      simp only [Facts, fill, Act.put, z1, z2, z3, z4, z5, Nat.reduceAdd] at hF hR hK ⊢
      go_simp
      exact hK _ _ _ hI (Step.refl hI) rfl
    · intro vs g w2 hI hF hR K hK
      simp only [Facts, fill, Act.put, z1, z2, z3, z4, z5, Nat.reduceAdd] at hF hR hK ⊢
      obtain ⟨r7, -⟩ := hR
      generalize vs 7 = x7 at *
      subst r7
      have k0 := hI.cell C1_W_0.out (by first | exact HO0 | exact HO1 | assumption)
      go_simp
      exact hK _ _ _ hI (Step.refl hI) rfl
    · intro vs g w2 hI hF hR K hK
      simp only [Facts, fill, Act.put, z1, z2, z3, z4, z5, Nat.reduceAdd] at hF hR hK ⊢
      obtain ⟨r6, r8, -⟩ := hR
      generalize vs 6 = x6, vs 8 = x8 at *
      subst r6 r8
      go_simp
      refine (gRef6product hI (by first | assumption | (unfold S; decide)) (by first | assumption | (unfold S; decide))).mono ?_
      rintro e w3 ⟨v3, rfl, hv, hb⟩
      exact hK _ _ _ (hI.call hb) (Step.call hI hb) hv
    · intro vs g w2 hI hF hR K hK
      simp only [Facts, fill, Act.put, z1, z2, z3, z4, z5, Nat.reduceAdd] at hF hR hK ⊢
      obtain ⟨r4, r9, -⟩ := hR
      generalize vs 4 = x4, vs 9 = x9 at *
      go_simp
      refine (gSub hI r4 r9 (by decide) (by decide)).mono ?_
      rintro e w3 ⟨v3, rfl, hv, hb⟩
      exact hK _ _ _ (hI.call hb) (Step.call hI hb) hv
    · intro vs g w2 hI hF hR K hK
      simp only [Facts, fill, Act.put, z1, z2, z3, z4, z5, Nat.reduceAdd] at hF hR hK ⊢
      obtain ⟨r10, -⟩ := hR
      generalize vs 10 = x10 at *
      have hk := hI.keep0 1000 _ (lift_at g0 (w.heap.size + 1 + 1))
      have hbx := hI.box0 1000 _ 2 (lift_at g0 (w.heap.size + 1 + 1)) HBX.out
      have qx := r10
      obtain ⟨s11, A11, n11, c11, rfl, hs11⟩ := numG_open r10
      obtain ⟨⟨u0, k0⟩, f0⟩ := hbx 0 (by decide)
      obtain ⟨⟨u1, k1⟩, f1⟩ := hbx 1 (by decide)
      go_simp
      have ht := (((Touch.refl w2 (w.heap.size + 1 + 1)).set 0 (.int .i64 s11)).set 1 (.slice A11 n11 c11))
      exact hK undef _ _ (hI.store (by decide) hk ht) (Step.store hI rfl hk ht) ⟨(w.heap.size + 1 + 1), .agg #[.int .i64 s11, .slice A11 n11 c11], hk, by rw [ht.size]; exact hI.lt _ _ hk, cells2 k0 k1 (.int .i64 s11) (.slice A11 n11 c11), ((numG_firm _ _) _ _ _ _ _ qx (ht.keeps hk))⟩
  case fin =>
    intro vs g wR1 hI hR
    have r11 := hR 11 (by decide)
    simp only [fill, Act.put, z1, z2, z3, z4, z5] at r11 ⊢
    clear hR
    generalize vs 11 = x11 at *
    have C0_R1_0 := Lib.hid (hI.cell C0_W_0.out (by first | exact HO0 | exact HO1 | assumption))
    have C0_R1_1 := Lib.hid (hI.cell C0_W_1.out (by first | exact HO0 | exact HO1 | assumption))
    have C1_R1_0 := Lib.hid (hI.cell C1_W_0.out (by first | exact HO0 | exact HO1 | assumption))
    have C1_R1_1 := Lib.hid (hI.cell C1_W_1.out (by first | exact HO0 | exact HO1 | assumption))
    have hkR14 := hI.keep0 1000 _ (lift_at g0 (w.heap.size + 1 + 1))
    obtain ⟨qR14, uR14, hqR14, -, hcR14, hrR14⟩ := r11
    rw [hkR14] at hqR14
    injection hqR14 with hqR14
    subst hqR14
    have qfR14 := hrR14
    obtain ⟨svR14, AvR14, nvR14, cvR14, rfl, hsvR14⟩ := numG_open hrR14
    have FR14_R1_0 := Lib.hid ((numG_firm _ _) _ _ _ _ _ qfR14 hI.back)
    clear qfR14
    have FR14_R1_1 := Lib.hid (numG_sign FR14_R1_0.out)
    have CR14_R1_0 := Lib.hid (hcR14 0 _ rfl)
    have CR14_R1_1 := Lib.hid (hcR14 1 _ rfl)
    clear hcR14 hkR14
    have hBR1 := hI.below
    have HCR1 := hI.next HOK
    clear hI
    go_wp2
    exact bodyPost_ret (v := .agg #[.int .i64 svR14, .slice AvR14 nvR14 cvR14]) (by simp [results, Tryd.results35, go_sem, CR14_R1_0.out, CR14_R1_1.out]) rfl ⟨_, rfl, (numG_firm _ _) _ _ _ _ _ FR14_R1_0.out keeps_out, hBR1⟩
/-- The determinant of three points. -/
def det (xa ya xb yb xc yc : Int) : Int := (xb - xa) * (yc - ya) - (yb - ya) * (xc - xa)
set_option maxRecDepth 100000 in
set_option maxHeartbeats 4000000 in
theorem gRef6Value0 {c0 : Ctx} {g0 : Gh} {w : World} {xa ya xb yb xc yc : Int} (hI0 : RInv c0 g0 w) (sxa : S xa) (sya : S ya) (sxb : S xb) (syb : S yb) (sxc : S xc) (syc : S yc) :
    Calls Tryd.prog 28 #[.agg #[.int .i64 xa, .int .i64 ya], .agg #[.int .i64 xb, .int .i64 yb], .agg #[.int .i64 xc, .int .i64 yc]] w (Gives (NumG 11 (xb * yc - yb * xc - (xa * yc - ya * xc) + (xa * yb - ya * xb))) g0 w) := by
  obtain ⟨W, hW⟩ : ∃ W, W = (((w.alloc (.cells #[.int .i64 xa, .int .i64 ya] 24)).alloc (.cells #[.int .i64 xb, .int .i64 yb] 24)).alloc (.cells #[.int .i64 xc, .int .i64 yc] 24)).alloc (.cells #[.int .i64 0, .slice none 0 0] 62) := ⟨_, rfl⟩
  have hb0 : Below w.heap.size w W := by rw [hW]; exact (((((Below.refl _ _).alloc (Nat.le_refl _) _).alloc (by simp) _).alloc (by simp; omega) _).alloc (by simp; omega) _)
  have HOK := Ctx.ok_lift (k := w.heap.size + 1 + 1 + 1) hI0 hb0 (by omega) (by rw [hW]; simp; try omega)
  have HBX := Lib.hid (show HasBox W (w.heap.size + 1 + 1 + 1) 2 by rw [hW]; have := box2' (((w.alloc (.cells #[.int .i64 xa, .int .i64 ya] 24)).alloc (.cells #[.int .i64 xb, .int .i64 yb] 24)).alloc (.cells #[.int .i64 xc, .int .i64 yc] 24)) (.int .i64 0) (.slice none 0 0) 62; simpa using this)
  have C0_W_0 := Lib.hid (show W.cell? ⟨w.heap.size, 0, none⟩ = some (.int .i64 xa) by rw [hW]; simp [go_sem])
  have C0_W_1 := Lib.hid (show W.cell? ⟨w.heap.size, 1, none⟩ = some (.int .i64 ya) by rw [hW]; simp [go_sem])
  have HO0 : Off (lift g0 (w.heap.size + 1 + 1 + 1)) (w.heap.size) := lift_off (hI0.offs _ (by omega)) (by omega)
  have C1_W_0 := Lib.hid (show W.cell? ⟨w.heap.size + 1, 0, none⟩ = some (.int .i64 xb) by rw [hW]; simp [go_sem])
  have C1_W_1 := Lib.hid (show W.cell? ⟨w.heap.size + 1, 1, none⟩ = some (.int .i64 yb) by rw [hW]; simp [go_sem])
  have HO1 : Off (lift g0 (w.heap.size + 1 + 1 + 1)) (w.heap.size + 1) := lift_off (hI0.offs _ (by omega)) (by omega)
  have C2_W_0 := Lib.hid (show W.cell? ⟨w.heap.size + 1 + 1, 0, none⟩ = some (.int .i64 xc) by rw [hW]; simp [go_sem])
  have C2_W_1 := Lib.hid (show W.cell? ⟨w.heap.size + 1 + 1, 1, none⟩ = some (.int .i64 yc) by rw [hW]; simp [go_sem])
  have HO2 : Off (lift g0 (w.heap.size + 1 + 1 + 1)) (w.heap.size + 1 + 1) := lift_off (hI0.offs _ (by omega)) (by omega)
  have HW := Lib.hid hW
  clear hW
  go_enter Tryd.func28, Tryd.ntmps28
  go_upto_region 1 with (fail)
  rw [← HW.out]
  refine box_plan (c := ⟨w, W, (lift g0 (w.heap.size + 1 + 1 + 1))⟩) HOK (by kernel_rfl) [[], [], [(7, 0), (8, 1)], [], [], [(10, 3), (11, 4)], [(9, 2), (12, 5)], [], [], [(14, 7), (15, 8)], [(13, 6), (16, 9)], [(17, 10)]] [(7, 0), (8, 1), (9, 2), (10, 3), (11, 4), (12, 5), (13, 6), (14, 7), (15, 8), (16, 9), (17, 10)] [
      (fun v _ _ => v = .agg #[.int .i64 xb, .int .i64 yb]),
      (fun v _ _ => v = .agg #[.int .i64 xc, .int .i64 yc]),
      NumG 9 (xb * yc - yb * xc),
      (fun v _ _ => v = .agg #[.int .i64 xa, .int .i64 ya]),
      (fun v _ _ => v = .agg #[.int .i64 xc, .int .i64 yc]),
      NumG 9 (xa * yc - ya * xc),
      NumG 10 ((xb * yc - yb * xc) - (xa * yc - ya * xc)),
      (fun v _ _ => v = .agg #[.int .i64 xa, .int .i64 ya]),
      (fun v _ _ => v = .agg #[.int .i64 xb, .int .i64 yb]),
      NumG 9 (xa * yb - ya * xb),
      NumG 11 (((xb * yc - yb * xc) - (xa * yc - ya * xc)) + (xa * yb - ya * xb)),
      (fun _ g w => BoxR 1000 (NumG 11 (((xb * yc - yb * xc) - (xa * yc - ya * xc)) + (xa * yb - ya * xb))) g w)
    ] (fun i => match i with | 1000 => some 11 | _ => none) (by kernel_rfl) (by kernel_rfl) ⟨stab_eq, stab_eq, stab_firm (numG_firm _ _), stab_eq, stab_eq, stab_firm (numG_firm _ _), stab_firm (numG_firm _ _), stab_eq, stab_eq, stab_firm (numG_firm _ _), stab_firm (numG_firm _ _), stab_box (numG_firm _ _) rfl, trivial⟩ ?steps ?fin
  case steps =>
    refine ⟨?_, ?_, ?_, ?_, ?_, ?_, ?_, ?_, ?_, ?_, ?_, ?_, trivial⟩
    · intro vs g w2 hI hF hR K hK
      simp only [Facts, fill, Act.put, z1, z2, z3, z4, z5, Nat.reduceAdd] at hF hR hK ⊢
      have k0 := hI.cell C1_W_0.out (by first | exact HO0 | exact HO1 | exact HO2 | assumption)
      have k1 := hI.cell C1_W_1.out (by first | exact HO0 | exact HO1 | exact HO2 | assumption)
      go_simp
      exact hK _ _ _ hI (Step.refl hI) rfl
    · intro vs g w2 hI hF hR K hK
      simp only [Facts, fill, Act.put, z1, z2, z3, z4, z5, Nat.reduceAdd] at hF hR hK ⊢
      have k0 := hI.cell C2_W_0.out (by first | exact HO0 | exact HO1 | exact HO2 | assumption)
      have k1 := hI.cell C2_W_1.out (by first | exact HO0 | exact HO1 | exact HO2 | assumption)
      go_simp
      exact hK _ _ _ hI (Step.refl hI) rfl
    · intro vs g w2 hI hF hR K hK
      simp only [Facts, fill, Act.put, z1, z2, z3, z4, z5, Nat.reduceAdd] at hF hR hK ⊢
      obtain ⟨r0, r1, -⟩ := hR
      generalize vs 0 = x0, vs 1 = x1 at *
      subst r0 r1
      go_simp
      refine (gRef6minor hI (by first | assumption | (unfold S; decide)) (by first | assumption | (unfold S; decide)) (by first | assumption | (unfold S; decide)) (by first | assumption | (unfold S; decide))).mono ?_
      rintro e w3 ⟨v3, rfl, hv, hb⟩
      exact hK _ _ _ (hI.call hb) (Step.call hI hb) hv
    · intro vs g w2 hI hF hR K hK
      simp only [Facts, fill, Act.put, z1, z2, z3, z4, z5, Nat.reduceAdd] at hF hR hK ⊢
      have k0 := hI.cell C0_W_0.out (by first | exact HO0 | exact HO1 | exact HO2 | assumption)
      have k1 := hI.cell C0_W_1.out (by first | exact HO0 | exact HO1 | exact HO2 | assumption)
      go_simp
      exact hK _ _ _ hI (Step.refl hI) rfl
    · intro vs g w2 hI hF hR K hK
      simp only [Facts, fill, Act.put, z1, z2, z3, z4, z5, Nat.reduceAdd] at hF hR hK ⊢
      have k0 := hI.cell C2_W_0.out (by first | exact HO0 | exact HO1 | exact HO2 | assumption)
      have k1 := hI.cell C2_W_1.out (by first | exact HO0 | exact HO1 | exact HO2 | assumption)
      go_simp
      exact hK _ _ _ hI (Step.refl hI) rfl
    · intro vs g w2 hI hF hR K hK
      simp only [Facts, fill, Act.put, z1, z2, z3, z4, z5, Nat.reduceAdd] at hF hR hK ⊢
      obtain ⟨r3, r4, -⟩ := hR
      generalize vs 3 = x3, vs 4 = x4 at *
      subst r3 r4
      go_simp
      refine (gRef6minor hI (by first | assumption | (unfold S; decide)) (by first | assumption | (unfold S; decide)) (by first | assumption | (unfold S; decide)) (by first | assumption | (unfold S; decide))).mono ?_
      rintro e w3 ⟨v3, rfl, hv, hb⟩
      exact hK _ _ _ (hI.call hb) (Step.call hI hb) hv
    · intro vs g w2 hI hF hR K hK
      simp only [Facts, fill, Act.put, z1, z2, z3, z4, z5, Nat.reduceAdd] at hF hR hK ⊢
      obtain ⟨r2, r5, -⟩ := hR
      generalize vs 2 = x2, vs 5 = x5 at *
      go_simp
      refine (gSub hI r2 r5 (by decide) (by decide)).mono ?_
      rintro e w3 ⟨v3, rfl, hv, hb⟩
      exact hK _ _ _ (hI.call hb) (Step.call hI hb) hv
    · intro vs g w2 hI hF hR K hK
      simp only [Facts, fill, Act.put, z1, z2, z3, z4, z5, Nat.reduceAdd] at hF hR hK ⊢
      have k0 := hI.cell C0_W_0.out (by first | exact HO0 | exact HO1 | exact HO2 | assumption)
      have k1 := hI.cell C0_W_1.out (by first | exact HO0 | exact HO1 | exact HO2 | assumption)
      go_simp
      exact hK _ _ _ hI (Step.refl hI) rfl
    · intro vs g w2 hI hF hR K hK
      simp only [Facts, fill, Act.put, z1, z2, z3, z4, z5, Nat.reduceAdd] at hF hR hK ⊢
      have k0 := hI.cell C1_W_0.out (by first | exact HO0 | exact HO1 | exact HO2 | assumption)
      have k1 := hI.cell C1_W_1.out (by first | exact HO0 | exact HO1 | exact HO2 | assumption)
      go_simp
      exact hK _ _ _ hI (Step.refl hI) rfl
    · intro vs g w2 hI hF hR K hK
      simp only [Facts, fill, Act.put, z1, z2, z3, z4, z5, Nat.reduceAdd] at hF hR hK ⊢
      obtain ⟨r7, r8, -⟩ := hR
      generalize vs 7 = x7, vs 8 = x8 at *
      subst r7 r8
      go_simp
      refine (gRef6minor hI (by first | assumption | (unfold S; decide)) (by first | assumption | (unfold S; decide)) (by first | assumption | (unfold S; decide)) (by first | assumption | (unfold S; decide))).mono ?_
      rintro e w3 ⟨v3, rfl, hv, hb⟩
      exact hK _ _ _ (hI.call hb) (Step.call hI hb) hv
    · intro vs g w2 hI hF hR K hK
      simp only [Facts, fill, Act.put, z1, z2, z3, z4, z5, Nat.reduceAdd] at hF hR hK ⊢
      obtain ⟨r6, r9, -⟩ := hR
      generalize vs 6 = x6, vs 9 = x9 at *
      go_simp
      refine (gAdd hI r6 r9 (by decide) (by decide)).mono ?_
      rintro e w3 ⟨v3, rfl, hv, hb⟩
      exact hK _ _ _ (hI.call hb) (Step.call hI hb) hv
    · intro vs g w2 hI hF hR K hK
      simp only [Facts, fill, Act.put, z1, z2, z3, z4, z5, Nat.reduceAdd] at hF hR hK ⊢
      obtain ⟨r10, -⟩ := hR
      generalize vs 10 = x10 at *
      have hk := hI.keep0 1000 _ (lift_at g0 (w.heap.size + 1 + 1 + 1))
      have hbx := hI.box0 1000 _ 2 (lift_at g0 (w.heap.size + 1 + 1 + 1)) HBX.out
      have qx := r10
      obtain ⟨s11, A11, n11, c11, rfl, hs11⟩ := numG_open r10
      obtain ⟨⟨u0, k0⟩, f0⟩ := hbx 0 (by decide)
      obtain ⟨⟨u1, k1⟩, f1⟩ := hbx 1 (by decide)
      go_simp
      have ht := (((Touch.refl w2 (w.heap.size + 1 + 1 + 1)).set 0 (.int .i64 s11)).set 1 (.slice A11 n11 c11))
      exact hK undef _ _ (hI.store (by decide) hk ht) (Step.store hI rfl hk ht) ⟨(w.heap.size + 1 + 1 + 1), .agg #[.int .i64 s11, .slice A11 n11 c11], hk, by rw [ht.size]; exact hI.lt _ _ hk, cells2 k0 k1 (.int .i64 s11) (.slice A11 n11 c11), ((numG_firm _ _) _ _ _ _ _ qx (ht.keeps hk))⟩
  case fin =>
    intro vs g wR1 hI hR
    have r11 := hR 11 (by decide)
    simp only [fill, Act.put, z1, z2, z3, z4, z5] at r11 ⊢
    clear hR
    generalize vs 11 = x11 at *
    have C0_R1_0 := Lib.hid (hI.cell C0_W_0.out (by first | exact HO0 | exact HO1 | exact HO2 | assumption))
    have C0_R1_1 := Lib.hid (hI.cell C0_W_1.out (by first | exact HO0 | exact HO1 | exact HO2 | assumption))
    have C1_R1_0 := Lib.hid (hI.cell C1_W_0.out (by first | exact HO0 | exact HO1 | exact HO2 | assumption))
    have C1_R1_1 := Lib.hid (hI.cell C1_W_1.out (by first | exact HO0 | exact HO1 | exact HO2 | assumption))
    have C2_R1_0 := Lib.hid (hI.cell C2_W_0.out (by first | exact HO0 | exact HO1 | exact HO2 | assumption))
    have C2_R1_1 := Lib.hid (hI.cell C2_W_1.out (by first | exact HO0 | exact HO1 | exact HO2 | assumption))
    have hkR16 := hI.keep0 1000 _ (lift_at g0 (w.heap.size + 1 + 1 + 1))
    obtain ⟨qR16, uR16, hqR16, -, hcR16, hrR16⟩ := r11
    rw [hkR16] at hqR16
    injection hqR16 with hqR16
    subst hqR16
    have qfR16 := hrR16
    obtain ⟨svR16, AvR16, nvR16, cvR16, rfl, hsvR16⟩ := numG_open hrR16
    have FR16_R1_0 := Lib.hid ((numG_firm _ _) _ _ _ _ _ qfR16 hI.back)
    clear qfR16
    have FR16_R1_1 := Lib.hid (numG_sign FR16_R1_0.out)
    have CR16_R1_0 := Lib.hid (hcR16 0 _ rfl)
    have CR16_R1_1 := Lib.hid (hcR16 1 _ rfl)
    clear hcR16 hkR16
    have hBR1 := hI.below
    have HCR1 := hI.next HOK
    clear hI
    go_wp2
    exact bodyPost_ret (v := .agg #[.int .i64 svR16, .slice AvR16 nvR16 cvR16]) (by simp [results, Tryd.results28, go_sem, CR16_R1_0.out, CR16_R1_1.out]) rfl ⟨_, rfl, (numG_firm _ _) _ _ _ _ _ FR16_R1_0.out keeps_out, hBR1⟩
theorem gRef6Value {c0 : Ctx} {g0 : Gh} {w : World} {xa ya xb yb xc yc : Int} (hI0 : RInv c0 g0 w) (sxa : S xa) (sya : S ya) (sxb : S xb) (syb : S yb) (sxc : S xc) (syc : S yc) :
    Calls Tryd.prog 28 #[.agg #[.int .i64 xa, .int .i64 ya], .agg #[.int .i64 xb, .int .i64 yb], .agg #[.int .i64 xc, .int .i64 yc]] w (Gives (NumG 11 (det xa ya xb yb xc yc)) g0 w) := by
  have h := gRef6Value0 hI0 sxa sya sxb syb sxc syc
  have e : xb * yc - yb * xc - (xa * yc - ya * xc) + (xa * yb - ya * xb) = det xa ya xb yb xc yc := by unfold det; grind
  rwa [e] at h
set_option maxRecDepth 100000 in
set_option maxHeartbeats 4000000 in
theorem gRef6Sign {c0 : Ctx} {g0 : Gh} {w : World} {xa ya xb yb xc yc : Int} (hI0 : RInv c0 g0 w) (sxa : S xa) (sya : S ya) (sxb : S xb) (syb : S yb) (sxc : S xc) (syc : S yc) :
    Calls Tryd.prog 21 #[.agg #[.int .i64 xa, .int .i64 ya], .agg #[.int .i64 xb, .int .i64 yb], .agg #[.int .i64 xc, .int .i64 yc]] w (Gives (SignR (det xa ya xb yb xc yc)) g0 w) := by
  obtain ⟨W, hW⟩ : ∃ W, W = ((w.alloc (.cells #[.int .i64 xa, .int .i64 ya] 24)).alloc (.cells #[.int .i64 xb, .int .i64 yb] 24)).alloc (.cells #[.int .i64 xc, .int .i64 yc] 24) := ⟨_, rfl⟩
  have hb0 : Below w.heap.size w W := by rw [hW]; exact ((((Below.refl _ _).alloc (Nat.le_refl _) _).alloc (by simp) _).alloc (by simp; omega) _)
  have HOK := Ctx.ok_lift0 hI0 hb0
  have C0_W_0 := Lib.hid (show W.cell? ⟨w.heap.size, 0, none⟩ = some (.int .i64 xa) by rw [hW]; simp [go_sem])
  have C0_W_1 := Lib.hid (show W.cell? ⟨w.heap.size, 1, none⟩ = some (.int .i64 ya) by rw [hW]; simp [go_sem])
  have HO0 : Off (lift0 g0) (w.heap.size) := lift0_off (hI0.offs _ (by omega))
  have C1_W_0 := Lib.hid (show W.cell? ⟨w.heap.size + 1, 0, none⟩ = some (.int .i64 xb) by rw [hW]; simp [go_sem])
  have C1_W_1 := Lib.hid (show W.cell? ⟨w.heap.size + 1, 1, none⟩ = some (.int .i64 yb) by rw [hW]; simp [go_sem])
  have HO1 : Off (lift0 g0) (w.heap.size + 1) := lift0_off (hI0.offs _ (by omega))
  have C2_W_0 := Lib.hid (show W.cell? ⟨w.heap.size + 1 + 1, 0, none⟩ = some (.int .i64 xc) by rw [hW]; simp [go_sem])
  have C2_W_1 := Lib.hid (show W.cell? ⟨w.heap.size + 1 + 1, 1, none⟩ = some (.int .i64 yc) by rw [hW]; simp [go_sem])
  have HO2 : Off (lift0 g0) (w.heap.size + 1 + 1) := lift0_off (hI0.offs _ (by omega))
  have HW := Lib.hid hW
  clear hW
  go_enter Tryd.func21, Tryd.ntmps21
  go_upto_region 1 with (fail)
  rw [← HW.out]
  refine box_plan0 (c := ⟨w, W, (lift0 g0)⟩) HOK [[], [], [], [(7, 0), (8, 1), (9, 2)], [(10, 3)], [(11, 4)]] [(7, 0), (8, 1), (9, 2), (10, 3), (11, 4), (6, 5)] [
      (fun v _ _ => v = .agg #[.int .i64 xa, .int .i64 ya]),
      (fun v _ _ => v = .agg #[.int .i64 xb, .int .i64 yb]),
      (fun v _ _ => v = .agg #[.int .i64 xc, .int .i64 yc]),
      NumG 11 (det xa ya xb yb xc yc),
      SignR (det xa ya xb yb xc yc),
      SignR (det xa ya xb yb xc yc)
    ] (fun _ => none) (by kernel_rfl) (by kernel_rfl) ⟨stab_eq, stab_eq, stab_eq, stab_firm (numG_firm _ _), stab_firm (signR_firm _), stab_firm (signR_firm _), trivial⟩ ?steps ?fin
  case steps =>
    refine ⟨?_, ?_, ?_, ?_, ?_, ?_, trivial⟩
    · intro vs g w2 hI hF hR K hK
      simp only [Facts, fill, Act.put, z1, z2, z3, z4, z5, Nat.reduceAdd] at hF hR hK ⊢
      have k0 := hI.cell C0_W_0.out (by first | exact HO0 | exact HO1 | exact HO2 | assumption)
      have k1 := hI.cell C0_W_1.out (by first | exact HO0 | exact HO1 | exact HO2 | assumption)
      go_simp
      exact hK _ _ _ hI (Step.refl hI) rfl
    · intro vs g w2 hI hF hR K hK
      simp only [Facts, fill, Act.put, z1, z2, z3, z4, z5, Nat.reduceAdd] at hF hR hK ⊢
      have k0 := hI.cell C1_W_0.out (by first | exact HO0 | exact HO1 | exact HO2 | assumption)
      have k1 := hI.cell C1_W_1.out (by first | exact HO0 | exact HO1 | exact HO2 | assumption)
      go_simp
      exact hK _ _ _ hI (Step.refl hI) rfl
    · intro vs g w2 hI hF hR K hK
      simp only [Facts, fill, Act.put, z1, z2, z3, z4, z5, Nat.reduceAdd] at hF hR hK ⊢
      have k0 := hI.cell C2_W_0.out (by first | exact HO0 | exact HO1 | exact HO2 | assumption)
      have k1 := hI.cell C2_W_1.out (by first | exact HO0 | exact HO1 | exact HO2 | assumption)
      go_simp
      exact hK _ _ _ hI (Step.refl hI) rfl
    · intro vs g w2 hI hF hR K hK
      simp only [Facts, fill, Act.put, z1, z2, z3, z4, z5, Nat.reduceAdd] at hF hR hK ⊢
      obtain ⟨r0, r1, r2, -⟩ := hR
      generalize vs 0 = x0, vs 1 = x1, vs 2 = x2 at *
      subst r0 r1 r2
      go_simp
      refine (gRef6Value hI (by first | assumption | (unfold S; decide)) (by first | assumption | (unfold S; decide)) (by first | assumption | (unfold S; decide)) (by first | assumption | (unfold S; decide)) (by first | assumption | (unfold S; decide)) (by first | assumption | (unfold S; decide))).mono ?_
      rintro e w3 ⟨v3, rfl, hv, hb⟩
      exact hK _ _ _ (hI.call hb) (Step.call hI hb) hv
    · intro vs g w2 hI hF hR K hK
      simp only [Facts, fill, Act.put, z1, z2, z3, z4, z5, Nat.reduceAdd] at hF hR hK ⊢
      obtain ⟨r3, -⟩ := hR
      generalize vs 3 = x3 at *
      obtain ⟨s4, A4, n4, c4, rfl, hs4⟩ := numG_open r3
      go_simp
      exact hK _ _ _ hI (Step.refl hI) hs4
    · intro vs g w2 hI hF hR K hK
      simp only [Facts, fill, Act.put, z1, z2, z3, z4, z5, Nat.reduceAdd] at hF hR hK ⊢
      obtain ⟨r4, -⟩ := hR
      generalize vs 4 = x4 at *
      go_simp
      exact hK _ _ _ hI (Step.refl hI) r4
  case fin =>
    intro vs g wR1 hI hR
    have r5 := hR 5 (by decide)
    simp only [fill, Act.put, z1, z2, z3, z4, z5] at r5 ⊢
    clear hR
    generalize vs 5 = x5 at *
    have C0_R1_0 := Lib.hid (hI.cell C0_W_0.out (by first | exact HO0 | exact HO1 | exact HO2 | assumption))
    have C0_R1_1 := Lib.hid (hI.cell C0_W_1.out (by first | exact HO0 | exact HO1 | exact HO2 | assumption))
    have C1_R1_0 := Lib.hid (hI.cell C1_W_0.out (by first | exact HO0 | exact HO1 | exact HO2 | assumption))
    have C1_R1_1 := Lib.hid (hI.cell C1_W_1.out (by first | exact HO0 | exact HO1 | exact HO2 | assumption))
    have C2_R1_0 := Lib.hid (hI.cell C2_W_0.out (by first | exact HO0 | exact HO1 | exact HO2 | assumption))
    have C2_R1_1 := Lib.hid (hI.cell C2_W_1.out (by first | exact HO0 | exact HO1 | exact HO2 | assumption))
    have qfR16 := r5
    obtain ⟨svR16, rfl, -⟩ := signR_open r5
    have FR16_R1_0 := Lib.hid ((signR_firm _) _ _ _ _ _ qfR16 hI.back)
    clear qfR16
    have hBR1 := hI.below
    have HCR1 := hI.next HOK
    clear hI
    go_wp2
    go_ret
    exact ⟨_, rfl, (signR_firm _) _ _ _ _ _ FR16_R1_0.out keeps_out0, hBR1⟩
end Go.Proofs.YtehnpmkolabiaaaDoor
