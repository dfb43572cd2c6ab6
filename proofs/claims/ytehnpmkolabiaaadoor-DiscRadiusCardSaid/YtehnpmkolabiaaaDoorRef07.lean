/-
  The reference of layer 7. (Written by law5.py.)
-/
import Derived.Test.YtehnpmkolabiaaaDoorRef07m
namespace Go.Proofs.YtehnpmkolabiaaaDoor
open Go.RowKit
set_option maxRecDepth 100000
set_option linter.unusedVariables false
set_option linter.unusedSimpArgs false

set_option maxRecDepth 100000 in
set_option maxHeartbeats 4000000 in
theorem gRef7lift {c0 : Ctx} {g0 : Gh} {w : World} {xa ya : Int} (hI0 : RInv c0 g0 w) (sxa : S xa) (sya : S ya) :
    Calls Tryd.prog 40 #[.agg #[.int .i64 xa, .int .i64 ya]] w (Gives (NumG 9 (xa * xa + ya * ya)) g0 w) := by
  obtain ⟨W, hW⟩ : ∃ W, W = (w.alloc (.cells #[.int .i64 xa, .int .i64 ya] 24)).alloc (.cells #[.int .i64 0, .slice none 0 0] 62) := ⟨_, rfl⟩
  have hb0 : Below w.heap.size w W := by rw [hW]; exact (((Below.refl _ _).alloc (Nat.le_refl _) _).alloc (by simp) _)
  have HOK := Ctx.ok_lift (k := w.heap.size + 1) hI0 hb0 (by omega) (by rw [hW]; simp; try omega)
  have HBX := Lib.hid (show HasBox W (w.heap.size + 1) 2 by rw [hW]; have := box2' (w.alloc (.cells #[.int .i64 xa, .int .i64 ya] 24)) (.int .i64 0) (.slice none 0 0) 62; simpa using this)
  have C0_W_0 := Lib.hid (show W.cell? ⟨w.heap.size, 0, none⟩ = some (.int .i64 xa) by rw [hW]; simp [go_sem])
  have C0_W_1 := Lib.hid (show W.cell? ⟨w.heap.size, 1, none⟩ = some (.int .i64 ya) by rw [hW]; simp [go_sem])
  have HO0 : Off (lift g0 (w.heap.size + 1)) (w.heap.size) := lift_off (hI0.offs _ (by omega)) (by omega)
  have HW := Lib.hid hW
  clear hW
  go_enter Tryd.func40, Tryd.ntmps40
  go_upto_region 1 with (fail)
  rw [← HW.out]
  refine box_plan0 (c := ⟨w, W, (lift g0 (w.heap.size + 1))⟩) HOK [[], [(5, 0)], [(6, 1)], [], [(3, 3), (7, 2)]] [(5, 0), (6, 1), (7, 2), (3, 3)] [
      (fun v _ _ => v = .pointer (some ⟨w.heap.size, 0, none⟩)),
      (fun v _ _ => v = .int .i64 xa),
      NumG 4 xa,
      PtrR 3 2,
      (fun _ g w => BoxR 3 (NumG 4 xa) g w)
    ] (fun i => match i with | 3 => some 4 | _ => none) (by kernel_rfl) (by kernel_rfl) ⟨stab_eq, stab_eq, stab_firm (numG_firm _ _), stab_ptr, stab_box (numG_firm _ _) rfl, trivial⟩ ?steps ?fin
  case steps =>
    refine ⟨?_, ?_, ?_, ?_, ?_, trivial⟩
    · intro vs g w2 hI hF hR K hK
      simp only [Facts, fill, Act.put, z1, z2, z3, z4, z5, Nat.reduceAdd] at hF hR hK ⊢
      go_simp
      exact hK _ _ _ hI (Step.refl hI) rfl
    · intro vs g w2 hI hF hR K hK
      simp only [Facts, fill, Act.put, z1, z2, z3, z4, z5, Nat.reduceAdd] at hF hR hK ⊢
      obtain ⟨r0, -⟩ := hR
      generalize vs 0 = x0 at *
      subst r0
      have k0 := hI.cell C0_W_0.out (by first | exact HO0 | assumption)
      go_simp
      exact hK _ _ _ hI (Step.refl hI) rfl
    · intro vs g w2 hI hF hR K hK
      simp only [Facts, fill, Act.put, z1, z2, z3, z4, z5, Nat.reduceAdd] at hF hR hK ⊢
      obtain ⟨r1, -⟩ := hR
      generalize vs 1 = x1 at *
      subst r1
      go_simp
      refine (gInt hI (by first | assumption | (unfold S; decide))).mono ?_
      rintro e w3 ⟨v3, rfl, hv, hb⟩
      exact hK _ _ _ (hI.call hb) (Step.call hI hb) hv
    · intro vs g w2 hI hF hR K hK
      simp only [Facts, fill, Act.put, z1, z2, z3, z4, z5, Nat.reduceAdd] at hF hR hK ⊢
      go_simp
      exact hK _ _ _ (hI.alloc _ (hF (by decide)) _) (Step.alloc hI (hF (by decide)) _) ⟨_, rfl, more_at _ _ _, box2' _ _ _ _⟩
    · intro vs g w2 hI hF hR K hK
      simp only [Facts, fill, Act.put, z1, z2, z3, z4, z5, Nat.reduceAdd] at hF hR hK ⊢
      obtain ⟨r3, r2, -⟩ := hR
      generalize vs 3 = x3, vs 2 = x2 at *
      obtain ⟨k, rfl, hk, hbx⟩ := r3
      have qx := r2
      obtain ⟨s4, A4, n4, c4, rfl, hs4⟩ := numG_open r2
      obtain ⟨⟨u0, k0⟩, f0⟩ := hbx 0 (by decide)
      obtain ⟨⟨u1, k1⟩, f1⟩ := hbx 1 (by decide)
      go_simp
      have ht := (((Touch.refl w2 k).set 0 (.int .i64 s4)).set 1 (.slice A4 n4 c4))
      exact hK undef _ _ (hI.store (by decide) hk ht) (Step.store hI rfl hk ht) ⟨k, .agg #[.int .i64 s4, .slice A4 n4 c4], hk, by rw [ht.size]; exact hI.lt _ _ hk, cells2 k0 k1 (.int .i64 s4) (.slice A4 n4 c4), ((numG_firm _ _) _ _ _ _ _ qx (ht.keeps hk))⟩
  case fin =>
    intro vs g wR1 hI hR
    have r3 := hR 3 (by decide)
    have r4 := hR 4 (by decide)
    simp only [fill, Act.put, z1, z2, z3, z4, z5] at r3 r4 ⊢
    clear hR
    generalize vs 3 = x3 at *
    generalize vs 4 = x4 at *
    have C0_R1_0 := Lib.hid (hI.cell C0_W_0.out (by first | exact HO0 | assumption))
    have C0_R1_1 := Lib.hid (hI.cell C0_W_1.out (by first | exact HO0 | assumption))
    have HBX_R1 := Lib.hid (hI.box0 1000 _ 2 (lift_at g0 (w.heap.size + 1)) HBX.out)
    obtain ⟨pR13, rfl, hkR13, -⟩ := r3
    have HO_R13 : Off (lift g0 (w.heap.size + 1)) pR13 := hI.off_new HOK (by decide) hkR13
    obtain ⟨qR13, uR13, hqR13, -, hcR13, hrR13⟩ := r4
    rw [hkR13] at hqR13
    injection hqR13 with hqR13
    subst hqR13
    have qfR13 := hrR13
    obtain ⟨svR13, AvR13, nvR13, cvR13, rfl, hsvR13⟩ := numG_open hrR13
    have FR13_R1_0 := Lib.hid ((numG_firm _ _) _ _ _ _ _ qfR13 hI.back)
    clear qfR13
    have FR13_R1_1 := Lib.hid (numG_sign FR13_R1_0.out)
    have CR13_R1_0 := Lib.hid (hcR13 0 _ rfl)
    have CR13_R1_1 := Lib.hid (hcR13 1 _ rfl)
    clear hcR13 hkR13
    have hBR1 := hI.below
    have HCR1 := hI.next HOK
    clear hI
    go_upto_region 2 with (fail)
    refine box_plan0 (c := ⟨w, wR1, (lift g0 (w.heap.size + 1))⟩) HCR1 [[], [(8, 0)], [(9, 1)], [], [(4, 3), (10, 2)]] [(8, 0), (9, 1), (10, 2), (4, 3)] [
        (fun v _ _ => v = .pointer (some ⟨w.heap.size, 1, none⟩)),
        (fun v _ _ => v = .int .i64 ya),
        NumG 4 ya,
        PtrR 3 2,
        (fun _ g w => BoxR 3 (NumG 4 ya) g w)
      ] (fun i => match i with | 3 => some 4 | _ => none) (by kernel_rfl) (by kernel_rfl) ⟨stab_eq, stab_eq, stab_firm (numG_firm _ _), stab_ptr, stab_box (numG_firm _ _) rfl, trivial⟩ ?steps ?fin
    case steps =>
      refine ⟨?_, ?_, ?_, ?_, ?_, trivial⟩
      · intro vs g w2 hI hF hR K hK
        simp only [Facts, fill, Act.put, z1, z2, z3, z4, z5, Nat.reduceAdd] at hF hR hK ⊢
        go_simp
        exact hK _ _ _ hI (Step.refl hI) rfl
      · intro vs g w2 hI hF hR K hK
        simp only [Facts, fill, Act.put, z1, z2, z3, z4, z5, Nat.reduceAdd] at hF hR hK ⊢
        obtain ⟨r0, -⟩ := hR
        generalize vs 0 = x0 at *
        subst r0
        have k0 := hI.cell C0_R1_1.out (by first | exact HO0 | exact HO_R13 | assumption)
        go_simp
        exact hK _ _ _ hI (Step.refl hI) rfl
      · intro vs g w2 hI hF hR K hK
        simp only [Facts, fill, Act.put, z1, z2, z3, z4, z5, Nat.reduceAdd] at hF hR hK ⊢
        obtain ⟨r1, -⟩ := hR
        generalize vs 1 = x1 at *
        subst r1
        go_simp
        refine (gInt hI (by first | assumption | (unfold S; decide))).mono ?_
        rintro e w3 ⟨v3, rfl, hv, hb⟩
        exact hK _ _ _ (hI.call hb) (Step.call hI hb) hv
      · intro vs g w2 hI hF hR K hK
        simp only [Facts, fill, Act.put, z1, z2, z3, z4, z5, Nat.reduceAdd] at hF hR hK ⊢
        go_simp
        exact hK _ _ _ (hI.alloc _ (hF (by decide)) _) (Step.alloc hI (hF (by decide)) _) ⟨_, rfl, more_at _ _ _, box2' _ _ _ _⟩
      · intro vs g w2 hI hF hR K hK
        simp only [Facts, fill, Act.put, z1, z2, z3, z4, z5, Nat.reduceAdd] at hF hR hK ⊢
        obtain ⟨r3, r2, -⟩ := hR
        generalize vs 3 = x3, vs 2 = x2 at *
        obtain ⟨k, rfl, hk, hbx⟩ := r3
        have qx := r2
        obtain ⟨s4, A4, n4, c4, rfl, hs4⟩ := numG_open r2
        obtain ⟨⟨u0, k0⟩, f0⟩ := hbx 0 (by decide)
        obtain ⟨⟨u1, k1⟩, f1⟩ := hbx 1 (by decide)
        go_simp
        have ht := (((Touch.refl w2 k).set 0 (.int .i64 s4)).set 1 (.slice A4 n4 c4))
        exact hK undef _ _ (hI.store (by decide) hk ht) (Step.store hI rfl hk ht) ⟨k, .agg #[.int .i64 s4, .slice A4 n4 c4], hk, by rw [ht.size]; exact hI.lt _ _ hk, cells2 k0 k1 (.int .i64 s4) (.slice A4 n4 c4), ((numG_firm _ _) _ _ _ _ _ qx (ht.keeps hk))⟩
    case fin =>
      intro vs g wR2 hI hR
      have r3 := hR 3 (by decide)
      have r4 := hR 4 (by decide)
      simp only [fill, Act.put, z1, z2, z3, z4, z5] at r3 r4 ⊢
      clear hR
      generalize vs 3 = x3 at *
      generalize vs 4 = x4 at *
      have C0_R2_0 := Lib.hid (hI.cell C0_R1_0.out (by first | exact HO0 | exact HO_R13 | assumption))
      have C0_R2_1 := Lib.hid (hI.cell C0_R1_1.out (by first | exact HO0 | exact HO_R13 | assumption))
      have HBX_R2 := Lib.hid (hI.box0 1000 _ 2 (lift_at g0 (w.heap.size + 1)) HBX_R1.out)
      have CR13_R2_0 := Lib.hid (hI.cell CR13_R1_0.out (by first | exact HO0 | exact HO_R13 | assumption))
      have CR13_R2_1 := Lib.hid (hI.cell CR13_R1_1.out (by first | exact HO0 | exact HO_R13 | assumption))
      have FR13_R2_0 := Lib.hid ((numG_firm _ _) _ _ _ _ _ FR13_R1_0.out hI.carry)
      have FR13_R2_1 := Lib.hid ((signR_firm _) _ _ _ _ _ FR13_R1_1.out hI.carry)
      obtain ⟨pR24, rfl, hkR24, -⟩ := r3
      have HO_R24 : Off (lift g0 (w.heap.size + 1)) pR24 := hI.off_new HCR1 (by decide) hkR24
      obtain ⟨qR24, uR24, hqR24, -, hcR24, hrR24⟩ := r4
      rw [hkR24] at hqR24
      injection hqR24 with hqR24
      subst hqR24
      have qfR24 := hrR24
      obtain ⟨svR24, AvR24, nvR24, cvR24, rfl, hsvR24⟩ := numG_open hrR24
      have FR24_R2_0 := Lib.hid ((numG_firm _ _) _ _ _ _ _ qfR24 hI.back)
      clear qfR24
      have FR24_R2_1 := Lib.hid (numG_sign FR24_R2_0.out)
      have CR24_R2_0 := Lib.hid (hcR24 0 _ rfl)
      have CR24_R2_1 := Lib.hid (hcR24 1 _ rfl)
      clear hcR24 hkR24
      have hBR2 := hI.below
      have HCR2 := hI.next HCR1
      clear hI
      go_upto_region 3 with (fail)
      refine box_plan (c := ⟨w, wR2, (lift g0 (w.heap.size + 1))⟩) HCR2 (by kernel_rfl) [[], [], [(11, 0), (12, 1)], [], [], [(14, 3), (15, 4)], [(13, 2), (16, 5)], [(17, 6)]] [(11, 0), (12, 1), (13, 2), (14, 3), (15, 4), (16, 5), (17, 6)] [
          (fun v _ _ => v = .agg #[.int .i64 svR13, .slice AvR13 nvR13 cvR13]),
          (fun v _ _ => v = .agg #[.int .i64 svR13, .slice AvR13 nvR13 cvR13]),
          NumG 8 (xa * xa),
          (fun v _ _ => v = .agg #[.int .i64 svR24, .slice AvR24 nvR24 cvR24]),
          (fun v _ _ => v = .agg #[.int .i64 svR24, .slice AvR24 nvR24 cvR24]),
          NumG 8 (ya * ya),
          NumG 9 ((xa * xa) + (ya * ya)),
          (fun _ g w => BoxR 1000 (NumG 9 ((xa * xa) + (ya * ya))) g w)
        ] (fun i => match i with | 1000 => some 7 | _ => none) (by kernel_rfl) (by kernel_rfl) ⟨stab_eq, stab_eq, stab_firm (numG_firm _ _), stab_eq, stab_eq, stab_firm (numG_firm _ _), stab_firm (numG_firm _ _), stab_box (numG_firm _ _) rfl, trivial⟩ ?steps ?fin
      case steps =>
        refine ⟨?_, ?_, ?_, ?_, ?_, ?_, ?_, ?_, trivial⟩
        · intro vs g w2 hI hF hR K hK
          simp only [Facts, fill, Act.put, z1, z2, z3, z4, z5, Nat.reduceAdd] at hF hR hK ⊢
          have k0 := hI.cell CR13_R2_0.out (by first | exact HO0 | exact HO_R13 | exact HO_R24 | assumption)
          have k1 := hI.cell CR13_R2_1.out (by first | exact HO0 | exact HO_R13 | exact HO_R24 | assumption)
          go_simp
          exact hK _ _ _ hI (Step.refl hI) rfl
        · intro vs g w2 hI hF hR K hK
          simp only [Facts, fill, Act.put, z1, z2, z3, z4, z5, Nat.reduceAdd] at hF hR hK ⊢
          have k0 := hI.cell CR13_R2_0.out (by first | exact HO0 | exact HO_R13 | exact HO_R24 | assumption)
          have k1 := hI.cell CR13_R2_1.out (by first | exact HO0 | exact HO_R13 | exact HO_R24 | assumption)
          go_simp
          exact hK _ _ _ hI (Step.refl hI) rfl
        · intro vs g w2 hI hF hR K hK
          simp only [Facts, fill, Act.put, z1, z2, z3, z4, z5, Nat.reduceAdd] at hF hR hK ⊢
          obtain ⟨r0, r1, -⟩ := hR
          generalize vs 0 = x0, vs 1 = x1 at *
          subst r0 r1
          go_simp
          refine (gMul hI ((numG_firm _ _) _ _ _ _ _ FR13_R2_0.out hI.keeps) ((numG_firm _ _) _ _ _ _ _ FR13_R2_0.out hI.keeps) (by decide) (by decide)).mono ?_
          rintro e w3 ⟨v3, rfl, hv, hb⟩
          exact hK _ _ _ (hI.call hb) (Step.call hI hb) hv
        · intro vs g w2 hI hF hR K hK
          simp only [Facts, fill, Act.put, z1, z2, z3, z4, z5, Nat.reduceAdd] at hF hR hK ⊢
          have k0 := hI.cell CR24_R2_0.out (by first | exact HO0 | exact HO_R13 | exact HO_R24 | assumption)
          have k1 := hI.cell CR24_R2_1.out (by first | exact HO0 | exact HO_R13 | exact HO_R24 | assumption)
          go_simp
          exact hK _ _ _ hI (Step.refl hI) rfl
        · intro vs g w2 hI hF hR K hK
          simp only [Facts, fill, Act.put, z1, z2, z3, z4, z5, Nat.reduceAdd] at hF hR hK ⊢
          have k0 := hI.cell CR24_R2_0.out (by first | exact HO0 | exact HO_R13 | exact HO_R24 | assumption)
          have k1 := hI.cell CR24_R2_1.out (by first | exact HO0 | exact HO_R13 | exact HO_R24 | assumption)
          go_simp
          exact hK _ _ _ hI (Step.refl hI) rfl
        · intro vs g w2 hI hF hR K hK
          simp only [Facts, fill, Act.put, z1, z2, z3, z4, z5, Nat.reduceAdd] at hF hR hK ⊢
          obtain ⟨r3, r4, -⟩ := hR
          generalize vs 3 = x3, vs 4 = x4 at *
          subst r3 r4
          go_simp
          refine (gMul hI ((numG_firm _ _) _ _ _ _ _ FR24_R2_0.out hI.keeps) ((numG_firm _ _) _ _ _ _ _ FR24_R2_0.out hI.keeps) (by decide) (by decide)).mono ?_
          rintro e w3 ⟨v3, rfl, hv, hb⟩
          exact hK _ _ _ (hI.call hb) (Step.call hI hb) hv
        · intro vs g w2 hI hF hR K hK
          simp only [Facts, fill, Act.put, z1, z2, z3, z4, z5, Nat.reduceAdd] at hF hR hK ⊢
          obtain ⟨r2, r5, -⟩ := hR
          generalize vs 2 = x2, vs 5 = x5 at *
          go_simp
          refine (gAdd hI r2 r5 (by decide) (by decide)).mono ?_
          rintro e w3 ⟨v3, rfl, hv, hb⟩
          exact hK _ _ _ (hI.call hb) (Step.call hI hb) hv
        · intro vs g w2 hI hF hR K hK
          simp only [Facts, fill, Act.put, z1, z2, z3, z4, z5, Nat.reduceAdd] at hF hR hK ⊢
          obtain ⟨r6, -⟩ := hR
          generalize vs 6 = x6 at *
          have hk := hI.keep0 1000 _ (lift_at g0 (w.heap.size + 1))
          have hbx := hI.box0 1000 _ 2 (lift_at g0 (w.heap.size + 1)) HBX_R2.out
          have qx := r6
          obtain ⟨s7, A7, n7, c7, rfl, hs7⟩ := numG_open r6
          obtain ⟨⟨u0, k0⟩, f0⟩ := hbx 0 (by decide)
          obtain ⟨⟨u1, k1⟩, f1⟩ := hbx 1 (by decide)
          go_simp
          have ht := (((Touch.refl w2 (w.heap.size + 1)).set 0 (.int .i64 s7)).set 1 (.slice A7 n7 c7))
          exact hK undef _ _ (hI.store (by decide) hk ht) (Step.store hI rfl hk ht) ⟨(w.heap.size + 1), .agg #[.int .i64 s7, .slice A7 n7 c7], hk, by rw [ht.size]; exact hI.lt _ _ hk, cells2 k0 k1 (.int .i64 s7) (.slice A7 n7 c7), ((numG_firm _ _) _ _ _ _ _ qx (ht.keeps hk))⟩
      case fin =>
        intro vs g wR3 hI hR
        have r7 := hR 7 (by decide)
        simp only [fill, Act.put, z1, z2, z3, z4, z5] at r7 ⊢
        clear hR
        generalize vs 7 = x7 at *
        have C0_R3_0 := Lib.hid (hI.cell C0_R2_0.out (by first | exact HO0 | exact HO_R13 | exact HO_R24 | assumption))
        have C0_R3_1 := Lib.hid (hI.cell C0_R2_1.out (by first | exact HO0 | exact HO_R13 | exact HO_R24 | assumption))
        have CR13_R3_0 := Lib.hid (hI.cell CR13_R2_0.out (by first | exact HO0 | exact HO_R13 | exact HO_R24 | assumption))
        have CR13_R3_1 := Lib.hid (hI.cell CR13_R2_1.out (by first | exact HO0 | exact HO_R13 | exact HO_R24 | assumption))
        have FR13_R3_0 := Lib.hid ((numG_firm _ _) _ _ _ _ _ FR13_R2_0.out hI.carry)
        have FR13_R3_1 := Lib.hid ((signR_firm _) _ _ _ _ _ FR13_R2_1.out hI.carry)
        have CR24_R3_0 := Lib.hid (hI.cell CR24_R2_0.out (by first | exact HO0 | exact HO_R13 | exact HO_R24 | assumption))
        have CR24_R3_1 := Lib.hid (hI.cell CR24_R2_1.out (by first | exact HO0 | exact HO_R13 | exact HO_R24 | assumption))
        have FR24_R3_0 := Lib.hid ((numG_firm _ _) _ _ _ _ _ FR24_R2_0.out hI.carry)
        have FR24_R3_1 := Lib.hid ((signR_firm _) _ _ _ _ _ FR24_R2_1.out hI.carry)
        have hkR32 := hI.keep0 1000 _ (lift_at g0 (w.heap.size + 1))
        obtain ⟨qR32, uR32, hqR32, -, hcR32, hrR32⟩ := r7
        rw [hkR32] at hqR32
        injection hqR32 with hqR32
        subst hqR32
        have qfR32 := hrR32
        obtain ⟨svR32, AvR32, nvR32, cvR32, rfl, hsvR32⟩ := numG_open hrR32
        have FR32_R3_0 := Lib.hid ((numG_firm _ _) _ _ _ _ _ qfR32 hI.back)
        clear qfR32
        have FR32_R3_1 := Lib.hid (numG_sign FR32_R3_0.out)
        have CR32_R3_0 := Lib.hid (hcR32 0 _ rfl)
        have CR32_R3_1 := Lib.hid (hcR32 1 _ rfl)
        clear hcR32 hkR32
        have hBR3 := hI.below
        have HCR3 := hI.next HCR2
        clear hI
        go_wp2
        exact bodyPost_ret (v := .agg #[.int .i64 svR32, .slice AvR32 nvR32 cvR32]) (by simp [results, Tryd.results40, go_sem, CR32_R3_0.out, CR32_R3_1.out]) rfl ⟨_, rfl, (numG_firm _ _) _ _ _ _ _ FR32_R3_0.out keeps_out, hBR3⟩
set_option maxRecDepth 100000 in
set_option maxHeartbeats 4000000 in
theorem gRef7Value0 {c0 : Ctx} {g0 : Gh} {w : World} {xa ya xb yb xc yc xd yd : Int} (hI0 : RInv c0 g0 w) (sxa : S xa) (sya : S ya) (sxb : S xb) (syb : S yb) (sxc : S xc) (syc : S yc) (sxd : S xd) (syd : S yd) :
    Calls Tryd.prog 31 #[.agg #[.int .i64 xa, .int .i64 ya], .agg #[.int .i64 xb, .int .i64 yb], .agg #[.int .i64 xc, .int .i64 yc], .agg #[.int .i64 xd, .int .i64 yd]] w (Gives (NumG 22 ((xa * xa + ya * ya) * (det xb yb xc yc xd yd) - (xb * xb + yb * yb) * (det xa ya xc yc xd yd) + ((xc * xc + yc * yc) * (det xa ya xb yb xd yd) - (xd * xd + yd * yd) * (det xa ya xb yb xc yc)))) g0 w) := by
  obtain ⟨W, hW⟩ : ∃ W, W = ((((w.alloc (.cells #[.int .i64 xa, .int .i64 ya] 24)).alloc (.cells #[.int .i64 xb, .int .i64 yb] 24)).alloc (.cells #[.int .i64 xc, .int .i64 yc] 24)).alloc (.cells #[.int .i64 xd, .int .i64 yd] 24)).alloc (.cells #[.int .i64 0, .slice none 0 0] 62) := ⟨_, rfl⟩
  have hb0 : Below w.heap.size w W := by rw [hW]; exact ((((((Below.refl _ _).alloc (Nat.le_refl _) _).alloc (by simp) _).alloc (by simp; omega) _).alloc (by simp; omega) _).alloc (by simp; omega) _)
  have HOK := Ctx.ok_lift (k := w.heap.size + 1 + 1 + 1 + 1) hI0 hb0 (by omega) (by rw [hW]; simp; try omega)
  have HBX := Lib.hid (show HasBox W (w.heap.size + 1 + 1 + 1 + 1) 2 by rw [hW]; have := box2' ((((w.alloc (.cells #[.int .i64 xa, .int .i64 ya] 24)).alloc (.cells #[.int .i64 xb, .int .i64 yb] 24)).alloc (.cells #[.int .i64 xc, .int .i64 yc] 24)).alloc (.cells #[.int .i64 xd, .int .i64 yd] 24)) (.int .i64 0) (.slice none 0 0) 62; simpa using this)
  have C0_W_0 := Lib.hid (show W.cell? ⟨w.heap.size, 0, none⟩ = some (.int .i64 xa) by rw [hW]; simp [go_sem])
  have C0_W_1 := Lib.hid (show W.cell? ⟨w.heap.size, 1, none⟩ = some (.int .i64 ya) by rw [hW]; simp [go_sem])
  have HO0 : Off (lift g0 (w.heap.size + 1 + 1 + 1 + 1)) (w.heap.size) := lift_off (hI0.offs _ (by omega)) (by omega)
  have C1_W_0 := Lib.hid (show W.cell? ⟨w.heap.size + 1, 0, none⟩ = some (.int .i64 xb) by rw [hW]; simp [go_sem])
  have C1_W_1 := Lib.hid (show W.cell? ⟨w.heap.size + 1, 1, none⟩ = some (.int .i64 yb) by rw [hW]; simp [go_sem])
  have HO1 : Off (lift g0 (w.heap.size + 1 + 1 + 1 + 1)) (w.heap.size + 1) := lift_off (hI0.offs _ (by omega)) (by omega)
  have C2_W_0 := Lib.hid (show W.cell? ⟨w.heap.size + 1 + 1, 0, none⟩ = some (.int .i64 xc) by rw [hW]; simp [go_sem])
  have C2_W_1 := Lib.hid (show W.cell? ⟨w.heap.size + 1 + 1, 1, none⟩ = some (.int .i64 yc) by rw [hW]; simp [go_sem])
  have HO2 : Off (lift g0 (w.heap.size + 1 + 1 + 1 + 1)) (w.heap.size + 1 + 1) := lift_off (hI0.offs _ (by omega)) (by omega)
  have C3_W_0 := Lib.hid (show W.cell? ⟨w.heap.size + 1 + 1 + 1, 0, none⟩ = some (.int .i64 xd) by rw [hW]; simp [go_sem])
  have C3_W_1 := Lib.hid (show W.cell? ⟨w.heap.size + 1 + 1 + 1, 1, none⟩ = some (.int .i64 yd) by rw [hW]; simp [go_sem])
  have HO3 : Off (lift g0 (w.heap.size + 1 + 1 + 1 + 1)) (w.heap.size + 1 + 1 + 1) := lift_off (hI0.offs _ (by omega)) (by omega)
  have HW := Lib.hid hW
  clear hW
  go_enter Tryd.func31, Tryd.ntmps31
  go_upto_region 1 with (fail)
  rw [← HW.out]
  refine box_plan (c := ⟨w, W, (lift g0 (w.heap.size + 1 + 1 + 1 + 1))⟩) HOK (by kernel_rfl) [[], [(13, 0)], [], [], [], [(15, 2), (16, 3), (17, 4)], [(14, 1), (18, 5)], [], [(9, 7), (19, 6)]] [(13, 0), (14, 1), (15, 2), (16, 3), (17, 4), (18, 5), (19, 6), (9, 7)] [
      (fun v _ _ => v = .agg #[.int .i64 xa, .int .i64 ya]),
      NumG 9 (xa * xa + ya * ya),
      (fun v _ _ => v = .agg #[.int .i64 xb, .int .i64 yb]),
      (fun v _ _ => v = .agg #[.int .i64 xc, .int .i64 yc]),
      (fun v _ _ => v = .agg #[.int .i64 xd, .int .i64 yd]),
      NumG 11 (det xb yb xc yc xd yd),
      NumG 20 ((xa * xa + ya * ya) * (det xb yb xc yc xd yd)),
      PtrR 7 2,
      (fun _ g w => BoxR 7 (NumG 20 ((xa * xa + ya * ya) * (det xb yb xc yc xd yd))) g w)
    ] (fun i => match i with | 7 => some 8 | _ => none) (by kernel_rfl) (by kernel_rfl) ⟨stab_eq, stab_firm (numG_firm _ _), stab_eq, stab_eq, stab_eq, stab_firm (numG_firm _ _), stab_firm (numG_firm _ _), stab_ptr, stab_box (numG_firm _ _) rfl, trivial⟩ ?steps ?fin
  case steps =>
    refine ⟨?_, ?_, ?_, ?_, ?_, ?_, ?_, ?_, ?_, trivial⟩
    · intro vs g w2 hI hF hR K hK
      simp only [Facts, fill, Act.put, z1, z2, z3, z4, z5, Nat.reduceAdd] at hF hR hK ⊢
      have k0 := hI.cell C0_W_0.out (by first | exact HO0 | exact HO1 | exact HO2 | exact HO3 | assumption)
      have k1 := hI.cell C0_W_1.out (by first | exact HO0 | exact HO1 | exact HO2 | exact HO3 | assumption)
      go_simp
      exact hK _ _ _ hI (Step.refl hI) rfl
    · intro vs g w2 hI hF hR K hK
      simp only [Facts, fill, Act.put, z1, z2, z3, z4, z5, Nat.reduceAdd] at hF hR hK ⊢
      obtain ⟨r0, -⟩ := hR
      generalize vs 0 = x0 at *
      subst r0
      go_simp
      refine (gRef7lift hI (by first | assumption | (unfold S; decide)) (by first | assumption | (unfold S; decide))).mono ?_
      rintro e w3 ⟨v3, rfl, hv, hb⟩
      exact hK _ _ _ (hI.call hb) (Step.call hI hb) hv
    · intro vs g w2 hI hF hR K hK
      simp only [Facts, fill, Act.put, z1, z2, z3, z4, z5, Nat.reduceAdd] at hF hR hK ⊢
      have k0 := hI.cell C1_W_0.out (by first | exact HO0 | exact HO1 | exact HO2 | exact HO3 | assumption)
      have k1 := hI.cell C1_W_1.out (by first | exact HO0 | exact HO1 | exact HO2 | exact HO3 | assumption)
      go_simp
      exact hK _ _ _ hI (Step.refl hI) rfl
    · intro vs g w2 hI hF hR K hK
      simp only [Facts, fill, Act.put, z1, z2, z3, z4, z5, Nat.reduceAdd] at hF hR hK ⊢
      have k0 := hI.cell C2_W_0.out (by first | exact HO0 | exact HO1 | exact HO2 | exact HO3 | assumption)
      have k1 := hI.cell C2_W_1.out (by first | exact HO0 | exact HO1 | exact HO2 | exact HO3 | assumption)
      go_simp
      exact hK _ _ _ hI (Step.refl hI) rfl
    · intro vs g w2 hI hF hR K hK
      simp only [Facts, fill, Act.put, z1, z2, z3, z4, z5, Nat.reduceAdd] at hF hR hK ⊢
      have k0 := hI.cell C3_W_0.out (by first | exact HO0 | exact HO1 | exact HO2 | exact HO3 | assumption)
      have k1 := hI.cell C3_W_1.out (by first | exact HO0 | exact HO1 | exact HO2 | exact HO3 | assumption)
      go_simp
      exact hK _ _ _ hI (Step.refl hI) rfl
    · intro vs g w2 hI hF hR K hK
      simp only [Facts, fill, Act.put, z1, z2, z3, z4, z5, Nat.reduceAdd] at hF hR hK ⊢
      obtain ⟨r2, r3, r4, -⟩ := hR
      generalize vs 2 = x2, vs 3 = x3, vs 4 = x4 at *
      subst r2 r3 r4
      go_simp
      refine (gRef6Value hI (by first | assumption | (unfold S; decide)) (by first | assumption | (unfold S; decide)) (by first | assumption | (unfold S; decide)) (by first | assumption | (unfold S; decide)) (by first | assumption | (unfold S; decide)) (by first | assumption | (unfold S; decide))).mono ?_
      rintro e w3 ⟨v3, rfl, hv, hb⟩
      exact hK _ _ _ (hI.call hb) (Step.call hI hb) hv
    · intro vs g w2 hI hF hR K hK
      simp only [Facts, fill, Act.put, z1, z2, z3, z4, z5, Nat.reduceAdd] at hF hR hK ⊢
      obtain ⟨r1, r5, -⟩ := hR
      generalize vs 1 = x1, vs 5 = x5 at *
      go_simp
      refine (gMul hI r1 r5 (by decide) (by decide)).mono ?_
      rintro e w3 ⟨v3, rfl, hv, hb⟩
      exact hK _ _ _ (hI.call hb) (Step.call hI hb) hv
    · intro vs g w2 hI hF hR K hK
      simp only [Facts, fill, Act.put, z1, z2, z3, z4, z5, Nat.reduceAdd] at hF hR hK ⊢
      go_simp
      exact hK _ _ _ (hI.alloc _ (hF (by decide)) _) (Step.alloc hI (hF (by decide)) _) ⟨_, rfl, more_at _ _ _, box2' _ _ _ _⟩
    · intro vs g w2 hI hF hR K hK
      simp only [Facts, fill, Act.put, z1, z2, z3, z4, z5, Nat.reduceAdd] at hF hR hK ⊢
      obtain ⟨r7, r6, -⟩ := hR
      generalize vs 7 = x7, vs 6 = x6 at *
      obtain ⟨k, rfl, hk, hbx⟩ := r7
      have qx := r6
      obtain ⟨s8, A8, n8, c8, rfl, hs8⟩ := numG_open r6
      obtain ⟨⟨u0, k0⟩, f0⟩ := hbx 0 (by decide)
      obtain ⟨⟨u1, k1⟩, f1⟩ := hbx 1 (by decide)
      go_simp
      have ht := (((Touch.refl w2 k).set 0 (.int .i64 s8)).set 1 (.slice A8 n8 c8))
      exact hK undef _ _ (hI.store (by decide) hk ht) (Step.store hI rfl hk ht) ⟨k, .agg #[.int .i64 s8, .slice A8 n8 c8], hk, by rw [ht.size]; exact hI.lt _ _ hk, cells2 k0 k1 (.int .i64 s8) (.slice A8 n8 c8), ((numG_firm _ _) _ _ _ _ _ qx (ht.keeps hk))⟩
  case fin =>
    intro vs g wR1 hI hR
    have r7 := hR 7 (by decide)
    have r8 := hR 8 (by decide)
    simp only [fill, Act.put, z1, z2, z3, z4, z5] at r7 r8 ⊢
    clear hR
    generalize vs 7 = x7 at *
    generalize vs 8 = x8 at *
    have C0_R1_0 := Lib.hid (hI.cell C0_W_0.out (by first | exact HO0 | exact HO1 | exact HO2 | exact HO3 | assumption))
    have C0_R1_1 := Lib.hid (hI.cell C0_W_1.out (by first | exact HO0 | exact HO1 | exact HO2 | exact HO3 | assumption))
    have C1_R1_0 := Lib.hid (hI.cell C1_W_0.out (by first | exact HO0 | exact HO1 | exact HO2 | exact HO3 | assumption))
    have C1_R1_1 := Lib.hid (hI.cell C1_W_1.out (by first | exact HO0 | exact HO1 | exact HO2 | exact HO3 | assumption))
    have C2_R1_0 := Lib.hid (hI.cell C2_W_0.out (by first | exact HO0 | exact HO1 | exact HO2 | exact HO3 | assumption))
    have C2_R1_1 := Lib.hid (hI.cell C2_W_1.out (by first | exact HO0 | exact HO1 | exact HO2 | exact HO3 | assumption))
    have C3_R1_0 := Lib.hid (hI.cell C3_W_0.out (by first | exact HO0 | exact HO1 | exact HO2 | exact HO3 | assumption))
    have C3_R1_1 := Lib.hid (hI.cell C3_W_1.out (by first | exact HO0 | exact HO1 | exact HO2 | exact HO3 | assumption))
    have HBX_R1 := Lib.hid (hI.box0 1000 _ 2 (lift_at g0 (w.heap.size + 1 + 1 + 1 + 1)) HBX.out)
    obtain ⟨pR19, rfl, hkR19, -⟩ := r7
    have HO_R19 : Off (lift g0 (w.heap.size + 1 + 1 + 1 + 1)) pR19 := hI.off_new HOK (by decide) hkR19
    obtain ⟨qR19, uR19, hqR19, -, hcR19, hrR19⟩ := r8
    rw [hkR19] at hqR19
    injection hqR19 with hqR19
    subst hqR19
    have qfR19 := hrR19
    obtain ⟨svR19, AvR19, nvR19, cvR19, rfl, hsvR19⟩ := numG_open hrR19
    have FR19_R1_0 := Lib.hid ((numG_firm _ _) _ _ _ _ _ qfR19 hI.back)
    clear qfR19
    have FR19_R1_1 := Lib.hid (numG_sign FR19_R1_0.out)
    have CR19_R1_0 := Lib.hid (hcR19 0 _ rfl)
    have CR19_R1_1 := Lib.hid (hcR19 1 _ rfl)
    clear hcR19 hkR19
    have hBR1 := hI.below
    have HCR1 := hI.next HOK
    clear hI
    go_upto_region 2 with (fail)
    refine box_plan (c := ⟨w, wR1, (lift g0 (w.heap.size + 1 + 1 + 1 + 1))⟩) HCR1 (by kernel_rfl) [[], [(20, 0)], [], [], [], [(22, 2), (23, 3), (24, 4)], [(21, 1), (25, 5)], [], [(10, 7), (26, 6)]] [(20, 0), (21, 1), (22, 2), (23, 3), (24, 4), (25, 5), (26, 6), (10, 7)] [
        (fun v _ _ => v = .agg #[.int .i64 xb, .int .i64 yb]),
        NumG 9 (xb * xb + yb * yb),
        (fun v _ _ => v = .agg #[.int .i64 xa, .int .i64 ya]),
        (fun v _ _ => v = .agg #[.int .i64 xc, .int .i64 yc]),
        (fun v _ _ => v = .agg #[.int .i64 xd, .int .i64 yd]),
        NumG 11 (det xa ya xc yc xd yd),
        NumG 20 ((xb * xb + yb * yb) * (det xa ya xc yc xd yd)),
        PtrR 7 2,
        (fun _ g w => BoxR 7 (NumG 20 ((xb * xb + yb * yb) * (det xa ya xc yc xd yd))) g w)
      ] (fun i => match i with | 7 => some 8 | _ => none) (by kernel_rfl) (by kernel_rfl) ⟨stab_eq, stab_firm (numG_firm _ _), stab_eq, stab_eq, stab_eq, stab_firm (numG_firm _ _), stab_firm (numG_firm _ _), stab_ptr, stab_box (numG_firm _ _) rfl, trivial⟩ ?steps ?fin
    case steps =>
      refine ⟨?_, ?_, ?_, ?_, ?_, ?_, ?_, ?_, ?_, trivial⟩
      · intro vs g w2 hI hF hR K hK
        simp only [Facts, fill, Act.put, z1, z2, z3, z4, z5, Nat.reduceAdd] at hF hR hK ⊢
        have k0 := hI.cell C1_R1_0.out (by first | exact HO0 | exact HO1 | exact HO2 | exact HO3 | exact HO_R19 | assumption)
        have k1 := hI.cell C1_R1_1.out (by first | exact HO0 | exact HO1 | exact HO2 | exact HO3 | exact HO_R19 | assumption)
        go_simp
        exact hK _ _ _ hI (Step.refl hI) rfl
      · intro vs g w2 hI hF hR K hK
        simp only [Facts, fill, Act.put, z1, z2, z3, z4, z5, Nat.reduceAdd] at hF hR hK ⊢
        obtain ⟨r0, -⟩ := hR
        generalize vs 0 = x0 at *
        subst r0
        go_simp
        refine (gRef7lift hI (by first | assumption | (unfold S; decide)) (by first | assumption | (unfold S; decide))).mono ?_
        rintro e w3 ⟨v3, rfl, hv, hb⟩
        exact hK _ _ _ (hI.call hb) (Step.call hI hb) hv
      · intro vs g w2 hI hF hR K hK
        simp only [Facts, fill, Act.put, z1, z2, z3, z4, z5, Nat.reduceAdd] at hF hR hK ⊢
        have k0 := hI.cell C0_R1_0.out (by first | exact HO0 | exact HO1 | exact HO2 | exact HO3 | exact HO_R19 | assumption)
        have k1 := hI.cell C0_R1_1.out (by first | exact HO0 | exact HO1 | exact HO2 | exact HO3 | exact HO_R19 | assumption)
        go_simp
        exact hK _ _ _ hI (Step.refl hI) rfl
      · intro vs g w2 hI hF hR K hK
        simp only [Facts, fill, Act.put, z1, z2, z3, z4, z5, Nat.reduceAdd] at hF hR hK ⊢
        have k0 := hI.cell C2_R1_0.out (by first | exact HO0 | exact HO1 | exact HO2 | exact HO3 | exact HO_R19 | assumption)
        have k1 := hI.cell C2_R1_1.out (by first | exact HO0 | exact HO1 | exact HO2 | exact HO3 | exact HO_R19 | assumption)
        go_simp
        exact hK _ _ _ hI (Step.refl hI) rfl
      · intro vs g w2 hI hF hR K hK
        simp only [Facts, fill, Act.put, z1, z2, z3, z4, z5, Nat.reduceAdd] at hF hR hK ⊢
        have k0 := hI.cell C3_R1_0.out (by first | exact HO0 | exact HO1 | exact HO2 | exact HO3 | exact HO_R19 | assumption)
        have k1 := hI.cell C3_R1_1.out (by first | exact HO0 | exact HO1 | exact HO2 | exact HO3 | exact HO_R19 | assumption)
        go_simp
        exact hK _ _ _ hI (Step.refl hI) rfl
      · intro vs g w2 hI hF hR K hK
        simp only [Facts, fill, Act.put, z1, z2, z3, z4, z5, Nat.reduceAdd] at hF hR hK ⊢
        obtain ⟨r2, r3, r4, -⟩ := hR
        generalize vs 2 = x2, vs 3 = x3, vs 4 = x4 at *
        subst r2 r3 r4
        go_simp
        refine (gRef6Value hI (by first | assumption | (unfold S; decide)) (by first | assumption | (unfold S; decide)) (by first | assumption | (unfold S; decide)) (by first | assumption | (unfold S; decide)) (by first | assumption | (unfold S; decide)) (by first | assumption | (unfold S; decide))).mono ?_
        rintro e w3 ⟨v3, rfl, hv, hb⟩
        exact hK _ _ _ (hI.call hb) (Step.call hI hb) hv
      · intro vs g w2 hI hF hR K hK
        simp only [Facts, fill, Act.put, z1, z2, z3, z4, z5, Nat.reduceAdd] at hF hR hK ⊢
        obtain ⟨r1, r5, -⟩ := hR
        generalize vs 1 = x1, vs 5 = x5 at *
        go_simp
        refine (gMul hI r1 r5 (by decide) (by decide)).mono ?_
        rintro e w3 ⟨v3, rfl, hv, hb⟩
        exact hK _ _ _ (hI.call hb) (Step.call hI hb) hv
      · intro vs g w2 hI hF hR K hK
        simp only [Facts, fill, Act.put, z1, z2, z3, z4, z5, Nat.reduceAdd] at hF hR hK ⊢
        go_simp
        exact hK _ _ _ (hI.alloc _ (hF (by decide)) _) (Step.alloc hI (hF (by decide)) _) ⟨_, rfl, more_at _ _ _, box2' _ _ _ _⟩
      · intro vs g w2 hI hF hR K hK
        simp only [Facts, fill, Act.put, z1, z2, z3, z4, z5, Nat.reduceAdd] at hF hR hK ⊢
        obtain ⟨r7, r6, -⟩ := hR
        generalize vs 7 = x7, vs 6 = x6 at *
        obtain ⟨k, rfl, hk, hbx⟩ := r7
        have qx := r6
        obtain ⟨s8, A8, n8, c8, rfl, hs8⟩ := numG_open r6
        obtain ⟨⟨u0, k0⟩, f0⟩ := hbx 0 (by decide)
        obtain ⟨⟨u1, k1⟩, f1⟩ := hbx 1 (by decide)
        go_simp
        have ht := (((Touch.refl w2 k).set 0 (.int .i64 s8)).set 1 (.slice A8 n8 c8))
        exact hK undef _ _ (hI.store (by decide) hk ht) (Step.store hI rfl hk ht) ⟨k, .agg #[.int .i64 s8, .slice A8 n8 c8], hk, by rw [ht.size]; exact hI.lt _ _ hk, cells2 k0 k1 (.int .i64 s8) (.slice A8 n8 c8), ((numG_firm _ _) _ _ _ _ _ qx (ht.keeps hk))⟩
    case fin =>
      intro vs g wR2 hI hR
      have r7 := hR 7 (by decide)
      have r8 := hR 8 (by decide)
      simp only [fill, Act.put, z1, z2, z3, z4, z5] at r7 r8 ⊢
      clear hR
      generalize vs 7 = x7 at *
      generalize vs 8 = x8 at *
      have C0_R2_0 := Lib.hid (hI.cell C0_R1_0.out (by first | exact HO0 | exact HO1 | exact HO2 | exact HO3 | exact HO_R19 | assumption))
      have C0_R2_1 := Lib.hid (hI.cell C0_R1_1.out (by first | exact HO0 | exact HO1 | exact HO2 | exact HO3 | exact HO_R19 | assumption))
      have C1_R2_0 := Lib.hid (hI.cell C1_R1_0.out (by first | exact HO0 | exact HO1 | exact HO2 | exact HO3 | exact HO_R19 | assumption))
      have C1_R2_1 := Lib.hid (hI.cell C1_R1_1.out (by first | exact HO0 | exact HO1 | exact HO2 | exact HO3 | exact HO_R19 | assumption))
      have C2_R2_0 := Lib.hid (hI.cell C2_R1_0.out (by first | exact HO0 | exact HO1 | exact HO2 | exact HO3 | exact HO_R19 | assumption))
      have C2_R2_1 := Lib.hid (hI.cell C2_R1_1.out (by first | exact HO0 | exact HO1 | exact HO2 | exact HO3 | exact HO_R19 | assumption))
      have C3_R2_0 := Lib.hid (hI.cell C3_R1_0.out (by first | exact HO0 | exact HO1 | exact HO2 | exact HO3 | exact HO_R19 | assumption))
      have C3_R2_1 := Lib.hid (hI.cell C3_R1_1.out (by first | exact HO0 | exact HO1 | exact HO2 | exact HO3 | exact HO_R19 | assumption))
      have HBX_R2 := Lib.hid (hI.box0 1000 _ 2 (lift_at g0 (w.heap.size + 1 + 1 + 1 + 1)) HBX_R1.out)
      have CR19_R2_0 := Lib.hid (hI.cell CR19_R1_0.out (by first | exact HO0 | exact HO1 | exact HO2 | exact HO3 | exact HO_R19 | assumption))
      have CR19_R2_1 := Lib.hid (hI.cell CR19_R1_1.out (by first | exact HO0 | exact HO1 | exact HO2 | exact HO3 | exact HO_R19 | assumption))
      have FR19_R2_0 := Lib.hid ((numG_firm _ _) _ _ _ _ _ FR19_R1_0.out hI.carry)
      have FR19_R2_1 := Lib.hid ((signR_firm _) _ _ _ _ _ FR19_R1_1.out hI.carry)
      obtain ⟨pR210, rfl, hkR210, -⟩ := r7
      have HO_R210 : Off (lift g0 (w.heap.size + 1 + 1 + 1 + 1)) pR210 := hI.off_new HCR1 (by decide) hkR210
      obtain ⟨qR210, uR210, hqR210, -, hcR210, hrR210⟩ := r8
      rw [hkR210] at hqR210
      injection hqR210 with hqR210
      subst hqR210
      have qfR210 := hrR210
      obtain ⟨svR210, AvR210, nvR210, cvR210, rfl, hsvR210⟩ := numG_open hrR210
      have FR210_R2_0 := Lib.hid ((numG_firm _ _) _ _ _ _ _ qfR210 hI.back)
      clear qfR210
      have FR210_R2_1 := Lib.hid (numG_sign FR210_R2_0.out)
      have CR210_R2_0 := Lib.hid (hcR210 0 _ rfl)
      have CR210_R2_1 := Lib.hid (hcR210 1 _ rfl)
      clear hcR210 hkR210
      have hBR2 := hI.below
      have HCR2 := hI.next HCR1
      clear hI
      go_upto_region 3 with (fail)
      refine box_plan (c := ⟨w, wR2, (lift g0 (w.heap.size + 1 + 1 + 1 + 1))⟩) HCR2 (by kernel_rfl) [[], [(27, 0)], [], [], [], [(29, 2), (30, 3), (31, 4)], [(28, 1), (32, 5)], [], [(11, 7), (33, 6)]] [(27, 0), (28, 1), (29, 2), (30, 3), (31, 4), (32, 5), (33, 6), (11, 7)] [
          (fun v _ _ => v = .agg #[.int .i64 xc, .int .i64 yc]),
          NumG 9 (xc * xc + yc * yc),
          (fun v _ _ => v = .agg #[.int .i64 xa, .int .i64 ya]),
          (fun v _ _ => v = .agg #[.int .i64 xb, .int .i64 yb]),
          (fun v _ _ => v = .agg #[.int .i64 xd, .int .i64 yd]),
          NumG 11 (det xa ya xb yb xd yd),
          NumG 20 ((xc * xc + yc * yc) * (det xa ya xb yb xd yd)),
          PtrR 7 2,
          (fun _ g w => BoxR 7 (NumG 20 ((xc * xc + yc * yc) * (det xa ya xb yb xd yd))) g w)
        ] (fun i => match i with | 7 => some 8 | _ => none) (by kernel_rfl) (by kernel_rfl) ⟨stab_eq, stab_firm (numG_firm _ _), stab_eq, stab_eq, stab_eq, stab_firm (numG_firm _ _), stab_firm (numG_firm _ _), stab_ptr, stab_box (numG_firm _ _) rfl, trivial⟩ ?steps ?fin
      case steps =>
        refine ⟨?_, ?_, ?_, ?_, ?_, ?_, ?_, ?_, ?_, trivial⟩
        · intro vs g w2 hI hF hR K hK
          simp only [Facts, fill, Act.put, z1, z2, z3, z4, z5, Nat.reduceAdd] at hF hR hK ⊢
          have k0 := hI.cell C2_R2_0.out (by first | exact HO0 | exact HO1 | exact HO2 | exact HO3 | exact HO_R19 | exact HO_R210 | assumption)
          have k1 := hI.cell C2_R2_1.out (by first | exact HO0 | exact HO1 | exact HO2 | exact HO3 | exact HO_R19 | exact HO_R210 | assumption)
          go_simp
          exact hK _ _ _ hI (Step.refl hI) rfl
        · intro vs g w2 hI hF hR K hK
          simp only [Facts, fill, Act.put, z1, z2, z3, z4, z5, Nat.reduceAdd] at hF hR hK ⊢
          obtain ⟨r0, -⟩ := hR
          generalize vs 0 = x0 at *
          subst r0
          go_simp
          refine (gRef7lift hI (by first | assumption | (unfold S; decide)) (by first | assumption | (unfold S; decide))).mono ?_
          rintro e w3 ⟨v3, rfl, hv, hb⟩
          exact hK _ _ _ (hI.call hb) (Step.call hI hb) hv
        · intro vs g w2 hI hF hR K hK
          simp only [Facts, fill, Act.put, z1, z2, z3, z4, z5, Nat.reduceAdd] at hF hR hK ⊢
          have k0 := hI.cell C0_R2_0.out (by first | exact HO0 | exact HO1 | exact HO2 | exact HO3 | exact HO_R19 | exact HO_R210 | assumption)
          have k1 := hI.cell C0_R2_1.out (by first | exact HO0 | exact HO1 | exact HO2 | exact HO3 | exact HO_R19 | exact HO_R210 | assumption)
          go_simp
          exact hK _ _ _ hI (Step.refl hI) rfl
        · intro vs g w2 hI hF hR K hK
          simp only [Facts, fill, Act.put, z1, z2, z3, z4, z5, Nat.reduceAdd] at hF hR hK ⊢
          have k0 := hI.cell C1_R2_0.out (by first | exact HO0 | exact HO1 | exact HO2 | exact HO3 | exact HO_R19 | exact HO_R210 | assumption)
          have k1 := hI.cell C1_R2_1.out (by first | exact HO0 | exact HO1 | exact HO2 | exact HO3 | exact HO_R19 | exact HO_R210 | assumption)
          go_simp
          exact hK _ _ _ hI (Step.refl hI) rfl
        · intro vs g w2 hI hF hR K hK
          simp only [Facts, fill, Act.put, z1, z2, z3, z4, z5, Nat.reduceAdd] at hF hR hK ⊢
          have k0 := hI.cell C3_R2_0.out (by first | exact HO0 | exact HO1 | exact HO2 | exact HO3 | exact HO_R19 | exact HO_R210 | assumption)
          have k1 := hI.cell C3_R2_1.out (by first | exact HO0 | exact HO1 | exact HO2 | exact HO3 | exact HO_R19 | exact HO_R210 | assumption)
          go_simp
          exact hK _ _ _ hI (Step.refl hI) rfl
        · intro vs g w2 hI hF hR K hK
          simp only [Facts, fill, Act.put, z1, z2, z3, z4, z5, Nat.reduceAdd] at hF hR hK ⊢
          obtain ⟨r2, r3, r4, -⟩ := hR
          generalize vs 2 = x2, vs 3 = x3, vs 4 = x4 at *
          subst r2 r3 r4
          go_simp
          refine (gRef6Value hI (by first | assumption | (unfold S; decide)) (by first | assumption | (unfold S; decide)) (by first | assumption | (unfold S; decide)) (by first | assumption | (unfold S; decide)) (by first | assumption | (unfold S; decide)) (by first | assumption | (unfold S; decide))).mono ?_
          rintro e w3 ⟨v3, rfl, hv, hb⟩
          exact hK _ _ _ (hI.call hb) (Step.call hI hb) hv
        · intro vs g w2 hI hF hR K hK
          simp only [Facts, fill, Act.put, z1, z2, z3, z4, z5, Nat.reduceAdd] at hF hR hK ⊢
          obtain ⟨r1, r5, -⟩ := hR
          generalize vs 1 = x1, vs 5 = x5 at *
          go_simp
          refine (gMul hI r1 r5 (by decide) (by decide)).mono ?_
          rintro e w3 ⟨v3, rfl, hv, hb⟩
          exact hK _ _ _ (hI.call hb) (Step.call hI hb) hv
        · intro vs g w2 hI hF hR K hK
          simp only [Facts, fill, Act.put, z1, z2, z3, z4, z5, Nat.reduceAdd] at hF hR hK ⊢
          go_simp
          exact hK _ _ _ (hI.alloc _ (hF (by decide)) _) (Step.alloc hI (hF (by decide)) _) ⟨_, rfl, more_at _ _ _, box2' _ _ _ _⟩
        · intro vs g w2 hI hF hR K hK
          simp only [Facts, fill, Act.put, z1, z2, z3, z4, z5, Nat.reduceAdd] at hF hR hK ⊢
          obtain ⟨r7, r6, -⟩ := hR
          generalize vs 7 = x7, vs 6 = x6 at *
          obtain ⟨k, rfl, hk, hbx⟩ := r7
          have qx := r6
          obtain ⟨s8, A8, n8, c8, rfl, hs8⟩ := numG_open r6
          obtain ⟨⟨u0, k0⟩, f0⟩ := hbx 0 (by decide)
          obtain ⟨⟨u1, k1⟩, f1⟩ := hbx 1 (by decide)
          go_simp
          have ht := (((Touch.refl w2 k).set 0 (.int .i64 s8)).set 1 (.slice A8 n8 c8))
          exact hK undef _ _ (hI.store (by decide) hk ht) (Step.store hI rfl hk ht) ⟨k, .agg #[.int .i64 s8, .slice A8 n8 c8], hk, by rw [ht.size]; exact hI.lt _ _ hk, cells2 k0 k1 (.int .i64 s8) (.slice A8 n8 c8), ((numG_firm _ _) _ _ _ _ _ qx (ht.keeps hk))⟩
      case fin =>
        intro vs g wR3 hI hR
        have r7 := hR 7 (by decide)
        have r8 := hR 8 (by decide)
        simp only [fill, Act.put, z1, z2, z3, z4, z5] at r7 r8 ⊢
        clear hR
        generalize vs 7 = x7 at *
        generalize vs 8 = x8 at *
        have C0_R3_0 := Lib.hid (hI.cell C0_R2_0.out (by first | exact HO0 | exact HO1 | exact HO2 | exact HO3 | exact HO_R19 | exact HO_R210 | assumption))
        have C0_R3_1 := Lib.hid (hI.cell C0_R2_1.out (by first | exact HO0 | exact HO1 | exact HO2 | exact HO3 | exact HO_R19 | exact HO_R210 | assumption))
        have C1_R3_0 := Lib.hid (hI.cell C1_R2_0.out (by first | exact HO0 | exact HO1 | exact HO2 | exact HO3 | exact HO_R19 | exact HO_R210 | assumption))
        have C1_R3_1 := Lib.hid (hI.cell C1_R2_1.out (by first | exact HO0 | exact HO1 | exact HO2 | exact HO3 | exact HO_R19 | exact HO_R210 | assumption))
        have C2_R3_0 := Lib.hid (hI.cell C2_R2_0.out (by first | exact HO0 | exact HO1 | exact HO2 | exact HO3 | exact HO_R19 | exact HO_R210 | assumption))
        have C2_R3_1 := Lib.hid (hI.cell C2_R2_1.out (by first | exact HO0 | exact HO1 | exact HO2 | exact HO3 | exact HO_R19 | exact HO_R210 | assumption))
        have C3_R3_0 := Lib.hid (hI.cell C3_R2_0.out (by first | exact HO0 | exact HO1 | exact HO2 | exact HO3 | exact HO_R19 | exact HO_R210 | assumption))
        have C3_R3_1 := Lib.hid (hI.cell C3_R2_1.out (by first | exact HO0 | exact HO1 | exact HO2 | exact HO3 | exact HO_R19 | exact HO_R210 | assumption))
        have HBX_R3 := Lib.hid (hI.box0 1000 _ 2 (lift_at g0 (w.heap.size + 1 + 1 + 1 + 1)) HBX_R2.out)
        have CR19_R3_0 := Lib.hid (hI.cell CR19_R2_0.out (by first | exact HO0 | exact HO1 | exact HO2 | exact HO3 | exact HO_R19 | exact HO_R210 | assumption))
        have CR19_R3_1 := Lib.hid (hI.cell CR19_R2_1.out (by first | exact HO0 | exact HO1 | exact HO2 | exact HO3 | exact HO_R19 | exact HO_R210 | assumption))
        have FR19_R3_0 := Lib.hid ((numG_firm _ _) _ _ _ _ _ FR19_R2_0.out hI.carry)
        have FR19_R3_1 := Lib.hid ((signR_firm _) _ _ _ _ _ FR19_R2_1.out hI.carry)
        have CR210_R3_0 := Lib.hid (hI.cell CR210_R2_0.out (by first | exact HO0 | exact HO1 | exact HO2 | exact HO3 | exact HO_R19 | exact HO_R210 | assumption))
        have CR210_R3_1 := Lib.hid (hI.cell CR210_R2_1.out (by first | exact HO0 | exact HO1 | exact HO2 | exact HO3 | exact HO_R19 | exact HO_R210 | assumption))
        have FR210_R3_0 := Lib.hid ((numG_firm _ _) _ _ _ _ _ FR210_R2_0.out hI.carry)
        have FR210_R3_1 := Lib.hid ((signR_firm _) _ _ _ _ _ FR210_R2_1.out hI.carry)
        obtain ⟨pR311, rfl, hkR311, -⟩ := r7
        have HO_R311 : Off (lift g0 (w.heap.size + 1 + 1 + 1 + 1)) pR311 := hI.off_new HCR2 (by decide) hkR311
        obtain ⟨qR311, uR311, hqR311, -, hcR311, hrR311⟩ := r8
        rw [hkR311] at hqR311
        injection hqR311 with hqR311
        subst hqR311
        have qfR311 := hrR311
        obtain ⟨svR311, AvR311, nvR311, cvR311, rfl, hsvR311⟩ := numG_open hrR311
        have FR311_R3_0 := Lib.hid ((numG_firm _ _) _ _ _ _ _ qfR311 hI.back)
        clear qfR311
        have FR311_R3_1 := Lib.hid (numG_sign FR311_R3_0.out)
        have CR311_R3_0 := Lib.hid (hcR311 0 _ rfl)
        have CR311_R3_1 := Lib.hid (hcR311 1 _ rfl)
        clear hcR311 hkR311
        have hBR3 := hI.below
        have HCR3 := hI.next HCR2
        clear hI
        go_upto_region 4 with (fail)
        refine box_plan (c := ⟨w, wR3, (lift g0 (w.heap.size + 1 + 1 + 1 + 1))⟩) HCR3 (by kernel_rfl) [[], [(34, 0)], [], [], [], [(36, 2), (37, 3), (38, 4)], [(35, 1), (39, 5)], [], [(12, 7), (40, 6)]] [(34, 0), (35, 1), (36, 2), (37, 3), (38, 4), (39, 5), (40, 6), (12, 7)] [
            (fun v _ _ => v = .agg #[.int .i64 xd, .int .i64 yd]),
            NumG 9 (xd * xd + yd * yd),
            (fun v _ _ => v = .agg #[.int .i64 xa, .int .i64 ya]),
            (fun v _ _ => v = .agg #[.int .i64 xb, .int .i64 yb]),
            (fun v _ _ => v = .agg #[.int .i64 xc, .int .i64 yc]),
            NumG 11 (det xa ya xb yb xc yc),
            NumG 20 ((xd * xd + yd * yd) * (det xa ya xb yb xc yc)),
            PtrR 7 2,
            (fun _ g w => BoxR 7 (NumG 20 ((xd * xd + yd * yd) * (det xa ya xb yb xc yc))) g w)
          ] (fun i => match i with | 7 => some 8 | _ => none) (by kernel_rfl) (by kernel_rfl) ⟨stab_eq, stab_firm (numG_firm _ _), stab_eq, stab_eq, stab_eq, stab_firm (numG_firm _ _), stab_firm (numG_firm _ _), stab_ptr, stab_box (numG_firm _ _) rfl, trivial⟩ ?steps ?fin
        case steps =>
          refine ⟨?_, ?_, ?_, ?_, ?_, ?_, ?_, ?_, ?_, trivial⟩
          · intro vs g w2 hI hF hR K hK
            simp only [Facts, fill, Act.put, z1, z2, z3, z4, z5, Nat.reduceAdd] at hF hR hK ⊢
            have k0 := hI.cell C3_R3_0.out (by first | exact HO0 | exact HO1 | exact HO2 | exact HO3 | exact HO_R19 | exact HO_R210 | exact HO_R311 | assumption)
            have k1 := hI.cell C3_R3_1.out (by first | exact HO0 | exact HO1 | exact HO2 | exact HO3 | exact HO_R19 | exact HO_R210 | exact HO_R311 | assumption)
            go_simp
            exact hK _ _ _ hI (Step.refl hI) rfl
          · intro vs g w2 hI hF hR K hK
            simp only [Facts, fill, Act.put, z1, z2, z3, z4, z5, Nat.reduceAdd] at hF hR hK ⊢
            obtain ⟨r0, -⟩ := hR
            generalize vs 0 = x0 at *
            subst r0
            go_simp
            refine (gRef7lift hI (by first | assumption | (unfold S; decide)) (by first | assumption | (unfold S; decide))).mono ?_
            rintro e w3 ⟨v3, rfl, hv, hb⟩
            exact hK _ _ _ (hI.call hb) (Step.call hI hb) hv
          · intro vs g w2 hI hF hR K hK
            simp only [Facts, fill, Act.put, z1, z2, z3, z4, z5, Nat.reduceAdd] at hF hR hK ⊢
            have k0 := hI.cell C0_R3_0.out (by first | exact HO0 | exact HO1 | exact HO2 | exact HO3 | exact HO_R19 | exact HO_R210 | exact HO_R311 | assumption)
            have k1 := hI.cell C0_R3_1.out (by first | exact HO0 | exact HO1 | exact HO2 | exact HO3 | exact HO_R19 | exact HO_R210 | exact HO_R311 | assumption)
            go_simp
            exact hK _ _ _ hI (Step.refl hI) rfl
          · intro vs g w2 hI hF hR K hK
            simp only [Facts, fill, Act.put, z1, z2, z3, z4, z5, Nat.reduceAdd] at hF hR hK ⊢
            have k0 := hI.cell C1_R3_0.out (by first | exact HO0 | exact HO1 | exact HO2 | exact HO3 | exact HO_R19 | exact HO_R210 | exact HO_R311 | assumption)
            have k1 := hI.cell C1_R3_1.out (by first | exact HO0 | exact HO1 | exact HO2 | exact HO3 | exact HO_R19 | exact HO_R210 | exact HO_R311 | assumption)
            go_simp
            exact hK _ _ _ hI (Step.refl hI) rfl
          · intro vs g w2 hI hF hR K hK
            simp only [Facts, fill, Act.put, z1, z2, z3, z4, z5, Nat.reduceAdd] at hF hR hK ⊢
            have k0 := hI.cell C2_R3_0.out (by first | exact HO0 | exact HO1 | exact HO2 | exact HO3 | exact HO_R19 | exact HO_R210 | exact HO_R311 | assumption)
            have k1 := hI.cell C2_R3_1.out (by first | exact HO0 | exact HO1 | exact HO2 | exact HO3 | exact HO_R19 | exact HO_R210 | exact HO_R311 | assumption)
            go_simp
            exact hK _ _ _ hI (Step.refl hI) rfl
          · intro vs g w2 hI hF hR K hK
            simp only [Facts, fill, Act.put, z1, z2, z3, z4, z5, Nat.reduceAdd] at hF hR hK ⊢
            obtain ⟨r2, r3, r4, -⟩ := hR
            generalize vs 2 = x2, vs 3 = x3, vs 4 = x4 at *
            subst r2 r3 r4
            go_simp
            refine (gRef6Value hI (by first | assumption | (unfold S; decide)) (by first | assumption | (unfold S; decide)) (by first | assumption | (unfold S; decide)) (by first | assumption | (unfold S; decide)) (by first | assumption | (unfold S; decide)) (by first | assumption | (unfold S; decide))).mono ?_
            rintro e w3 ⟨v3, rfl, hv, hb⟩
            exact hK _ _ _ (hI.call hb) (Step.call hI hb) hv
          · intro vs g w2 hI hF hR K hK
            simp only [Facts, fill, Act.put, z1, z2, z3, z4, z5, Nat.reduceAdd] at hF hR hK ⊢
            obtain ⟨r1, r5, -⟩ := hR
            generalize vs 1 = x1, vs 5 = x5 at *
            go_simp
            refine (gMul hI r1 r5 (by decide) (by decide)).mono ?_
            rintro e w3 ⟨v3, rfl, hv, hb⟩
            exact hK _ _ _ (hI.call hb) (Step.call hI hb) hv
          · intro vs g w2 hI hF hR K hK
            simp only [Facts, fill, Act.put, z1, z2, z3, z4, z5, Nat.reduceAdd] at hF hR hK ⊢
            go_simp
            exact hK _ _ _ (hI.alloc _ (hF (by decide)) _) (Step.alloc hI (hF (by decide)) _) ⟨_, rfl, more_at _ _ _, box2' _ _ _ _⟩
          · intro vs g w2 hI hF hR K hK
            simp only [Facts, fill, Act.put, z1, z2, z3, z4, z5, Nat.reduceAdd] at hF hR hK ⊢
            obtain ⟨r7, r6, -⟩ := hR
            generalize vs 7 = x7, vs 6 = x6 at *
            obtain ⟨k, rfl, hk, hbx⟩ := r7
            have qx := r6
            obtain ⟨s8, A8, n8, c8, rfl, hs8⟩ := numG_open r6
            obtain ⟨⟨u0, k0⟩, f0⟩ := hbx 0 (by decide)
            obtain ⟨⟨u1, k1⟩, f1⟩ := hbx 1 (by decide)
            go_simp
            have ht := (((Touch.refl w2 k).set 0 (.int .i64 s8)).set 1 (.slice A8 n8 c8))
            exact hK undef _ _ (hI.store (by decide) hk ht) (Step.store hI rfl hk ht) ⟨k, .agg #[.int .i64 s8, .slice A8 n8 c8], hk, by rw [ht.size]; exact hI.lt _ _ hk, cells2 k0 k1 (.int .i64 s8) (.slice A8 n8 c8), ((numG_firm _ _) _ _ _ _ _ qx (ht.keeps hk))⟩
        case fin =>
          intro vs g wR4 hI hR
          have r7 := hR 7 (by decide)
          have r8 := hR 8 (by decide)
          simp only [fill, Act.put, z1, z2, z3, z4, z5] at r7 r8 ⊢
          clear hR
          generalize vs 7 = x7 at *
          generalize vs 8 = x8 at *
          have C0_R4_0 := Lib.hid (hI.cell C0_R3_0.out (by first | exact HO0 | exact HO1 | exact HO2 | exact HO3 | exact HO_R19 | exact HO_R210 | exact HO_R311 | assumption))
          have C0_R4_1 := Lib.hid (hI.cell C0_R3_1.out (by first | exact HO0 | exact HO1 | exact HO2 | exact HO3 | exact HO_R19 | exact HO_R210 | exact HO_R311 | assumption))
          have C1_R4_0 := Lib.hid (hI.cell C1_R3_0.out (by first | exact HO0 | exact HO1 | exact HO2 | exact HO3 | exact HO_R19 | exact HO_R210 | exact HO_R311 | assumption))
          have C1_R4_1 := Lib.hid (hI.cell C1_R3_1.out (by first | exact HO0 | exact HO1 | exact HO2 | exact HO3 | exact HO_R19 | exact HO_R210 | exact HO_R311 | assumption))
          have C2_R4_0 := Lib.hid (hI.cell C2_R3_0.out (by first | exact HO0 | exact HO1 | exact HO2 | exact HO3 | exact HO_R19 | exact HO_R210 | exact HO_R311 | assumption))
          have C2_R4_1 := Lib.hid (hI.cell C2_R3_1.out (by first | exact HO0 | exact HO1 | exact HO2 | exact HO3 | exact HO_R19 | exact HO_R210 | exact HO_R311 | assumption))
          have C3_R4_0 := Lib.hid (hI.cell C3_R3_0.out (by first | exact HO0 | exact HO1 | exact HO2 | exact HO3 | exact HO_R19 | exact HO_R210 | exact HO_R311 | assumption))
          have C3_R4_1 := Lib.hid (hI.cell C3_R3_1.out (by first | exact HO0 | exact HO1 | exact HO2 | exact HO3 | exact HO_R19 | exact HO_R210 | exact HO_R311 | assumption))
          have HBX_R4 := Lib.hid (hI.box0 1000 _ 2 (lift_at g0 (w.heap.size + 1 + 1 + 1 + 1)) HBX_R3.out)
          have CR19_R4_0 := Lib.hid (hI.cell CR19_R3_0.out (by first | exact HO0 | exact HO1 | exact HO2 | exact HO3 | exact HO_R19 | exact HO_R210 | exact HO_R311 | assumption))
          have CR19_R4_1 := Lib.hid (hI.cell CR19_R3_1.out (by first | exact HO0 | exact HO1 | exact HO2 | exact HO3 | exact HO_R19 | exact HO_R210 | exact HO_R311 | assumption))
          have FR19_R4_0 := Lib.hid ((numG_firm _ _) _ _ _ _ _ FR19_R3_0.out hI.carry)
          have FR19_R4_1 := Lib.hid ((signR_firm _) _ _ _ _ _ FR19_R3_1.out hI.carry)
          have CR210_R4_0 := Lib.hid (hI.cell CR210_R3_0.out (by first | exact HO0 | exact HO1 | exact HO2 | exact HO3 | exact HO_R19 | exact HO_R210 | exact HO_R311 | assumption))
          have CR210_R4_1 := Lib.hid (hI.cell CR210_R3_1.out (by first | exact HO0 | exact HO1 | exact HO2 | exact HO3 | exact HO_R19 | exact HO_R210 | exact HO_R311 | assumption))
          have FR210_R4_0 := Lib.hid ((numG_firm _ _) _ _ _ _ _ FR210_R3_0.out hI.carry)
          have FR210_R4_1 := Lib.hid ((signR_firm _) _ _ _ _ _ FR210_R3_1.out hI.carry)
          have CR311_R4_0 := Lib.hid (hI.cell CR311_R3_0.out (by first | exact HO0 | exact HO1 | exact HO2 | exact HO3 | exact HO_R19 | exact HO_R210 | exact HO_R311 | assumption))
          have CR311_R4_1 := Lib.hid (hI.cell CR311_R3_1.out (by first | exact HO0 | exact HO1 | exact HO2 | exact HO3 | exact HO_R19 | exact HO_R210 | exact HO_R311 | assumption))
          have FR311_R4_0 := Lib.hid ((numG_firm _ _) _ _ _ _ _ FR311_R3_0.out hI.carry)
          have FR311_R4_1 := Lib.hid ((signR_firm _) _ _ _ _ _ FR311_R3_1.out hI.carry)
          obtain ⟨pR412, rfl, hkR412, -⟩ := r7
          have HO_R412 : Off (lift g0 (w.heap.size + 1 + 1 + 1 + 1)) pR412 := hI.off_new HCR3 (by decide) hkR412
          obtain ⟨qR412, uR412, hqR412, -, hcR412, hrR412⟩ := r8
          rw [hkR412] at hqR412
          injection hqR412 with hqR412
          subst hqR412
          have qfR412 := hrR412
          obtain ⟨svR412, AvR412, nvR412, cvR412, rfl, hsvR412⟩ := numG_open hrR412
          have FR412_R4_0 := Lib.hid ((numG_firm _ _) _ _ _ _ _ qfR412 hI.back)
          clear qfR412
          have FR412_R4_1 := Lib.hid (numG_sign FR412_R4_0.out)
          have CR412_R4_0 := Lib.hid (hcR412 0 _ rfl)
          have CR412_R4_1 := Lib.hid (hcR412 1 _ rfl)
          clear hcR412 hkR412
          have hBR4 := hI.below
          have HCR4 := hI.next HCR3
          clear hI
          go_upto_region 5 with (fail)
          refine box_plan (c := ⟨w, wR4, (lift g0 (w.heap.size + 1 + 1 + 1 + 1))⟩) HCR4 (by kernel_rfl) [[], [], [(41, 0), (42, 1)], [], [], [(44, 3), (45, 4)], [(43, 2), (46, 5)], [(47, 6)]] [(41, 0), (42, 1), (43, 2), (44, 3), (45, 4), (46, 5), (47, 6)] [
              (fun v _ _ => v = .agg #[.int .i64 svR19, .slice AvR19 nvR19 cvR19]),
              (fun v _ _ => v = .agg #[.int .i64 svR210, .slice AvR210 nvR210 cvR210]),
              NumG 21 (((xa * xa + ya * ya) * (det xb yb xc yc xd yd)) - ((xb * xb + yb * yb) * (det xa ya xc yc xd yd))),
              (fun v _ _ => v = .agg #[.int .i64 svR311, .slice AvR311 nvR311 cvR311]),
              (fun v _ _ => v = .agg #[.int .i64 svR412, .slice AvR412 nvR412 cvR412]),
              NumG 21 (((xc * xc + yc * yc) * (det xa ya xb yb xd yd)) - ((xd * xd + yd * yd) * (det xa ya xb yb xc yc))),
              NumG 22 ((((xa * xa + ya * ya) * (det xb yb xc yc xd yd)) - ((xb * xb + yb * yb) * (det xa ya xc yc xd yd))) + (((xc * xc + yc * yc) * (det xa ya xb yb xd yd)) - ((xd * xd + yd * yd) * (det xa ya xb yb xc yc)))),
              (fun _ g w => BoxR 1000 (NumG 22 ((((xa * xa + ya * ya) * (det xb yb xc yc xd yd)) - ((xb * xb + yb * yb) * (det xa ya xc yc xd yd))) + (((xc * xc + yc * yc) * (det xa ya xb yb xd yd)) - ((xd * xd + yd * yd) * (det xa ya xb yb xc yc))))) g w)
            ] (fun i => match i with | 1000 => some 7 | _ => none) (by kernel_rfl) (by kernel_rfl) ⟨stab_eq, stab_eq, stab_firm (numG_firm _ _), stab_eq, stab_eq, stab_firm (numG_firm _ _), stab_firm (numG_firm _ _), stab_box (numG_firm _ _) rfl, trivial⟩ ?steps ?fin
          case steps =>
            refine ⟨?_, ?_, ?_, ?_, ?_, ?_, ?_, ?_, trivial⟩
            · intro vs g w2 hI hF hR K hK
              simp only [Facts, fill, Act.put, z1, z2, z3, z4, z5, Nat.reduceAdd] at hF hR hK ⊢
              have k0 := hI.cell CR19_R4_0.out (by first | exact HO0 | exact HO1 | exact HO2 | exact HO3 | exact HO_R19 | exact HO_R210 | exact HO_R311 | exact HO_R412 | assumption)
              have k1 := hI.cell CR19_R4_1.out (by first | exact HO0 | exact HO1 | exact HO2 | exact HO3 | exact HO_R19 | exact HO_R210 | exact HO_R311 | exact HO_R412 | assumption)
              go_simp
              exact hK _ _ _ hI (Step.refl hI) rfl
            · intro vs g w2 hI hF hR K hK
              simp only [Facts, fill, Act.put, z1, z2, z3, z4, z5, Nat.reduceAdd] at hF hR hK ⊢
              have k0 := hI.cell CR210_R4_0.out (by first | exact HO0 | exact HO1 | exact HO2 | exact HO3 | exact HO_R19 | exact HO_R210 | exact HO_R311 | exact HO_R412 | assumption)
              have k1 := hI.cell CR210_R4_1.out (by first | exact HO0 | exact HO1 | exact HO2 | exact HO3 | exact HO_R19 | exact HO_R210 | exact HO_R311 | exact HO_R412 | assumption)
              go_simp
              exact hK _ _ _ hI (Step.refl hI) rfl
            · intro vs g w2 hI hF hR K hK
              simp only [Facts, fill, Act.put, z1, z2, z3, z4, z5, Nat.reduceAdd] at hF hR hK ⊢
              obtain ⟨r0, r1, -⟩ := hR
              generalize vs 0 = x0, vs 1 = x1 at *
              subst r0 r1
              go_simp
              refine (gSub hI ((numG_firm _ _) _ _ _ _ _ FR19_R4_0.out hI.keeps) ((numG_firm _ _) _ _ _ _ _ FR210_R4_0.out hI.keeps) (by decide) (by decide)).mono ?_
              rintro e w3 ⟨v3, rfl, hv, hb⟩
              exact hK _ _ _ (hI.call hb) (Step.call hI hb) hv
            · intro vs g w2 hI hF hR K hK
              simp only [Facts, fill, Act.put, z1, z2, z3, z4, z5, Nat.reduceAdd] at hF hR hK ⊢
              have k0 := hI.cell CR311_R4_0.out (by first | exact HO0 | exact HO1 | exact HO2 | exact HO3 | exact HO_R19 | exact HO_R210 | exact HO_R311 | exact HO_R412 | assumption)
              have k1 := hI.cell CR311_R4_1.out (by first | exact HO0 | exact HO1 | exact HO2 | exact HO3 | exact HO_R19 | exact HO_R210 | exact HO_R311 | exact HO_R412 | assumption)
              go_simp
              exact hK _ _ _ hI (Step.refl hI) rfl
            · intro vs g w2 hI hF hR K hK
              simp only [Facts, fill, Act.put, z1, z2, z3, z4, z5, Nat.reduceAdd] at hF hR hK ⊢
              have k0 := hI.cell CR412_R4_0.out (by first | exact HO0 | exact HO1 | exact HO2 | exact HO3 | exact HO_R19 | exact HO_R210 | exact HO_R311 | exact HO_R412 | assumption)
              have k1 := hI.cell CR412_R4_1.out (by first | exact HO0 | exact HO1 | exact HO2 | exact HO3 | exact HO_R19 | exact HO_R210 | exact HO_R311 | exact HO_R412 | assumption)
              go_simp
              exact hK _ _ _ hI (Step.refl hI) rfl
            · intro vs g w2 hI hF hR K hK
              simp only [Facts, fill, Act.put, z1, z2, z3, z4, z5, Nat.reduceAdd] at hF hR hK ⊢
              obtain ⟨r3, r4, -⟩ := hR
              generalize vs 3 = x3, vs 4 = x4 at *
              subst r3 r4
              go_simp
              refine (gSub hI ((numG_firm _ _) _ _ _ _ _ FR311_R4_0.out hI.keeps) ((numG_firm _ _) _ _ _ _ _ FR412_R4_0.out hI.keeps) (by decide) (by decide)).mono ?_
              rintro e w3 ⟨v3, rfl, hv, hb⟩
              exact hK _ _ _ (hI.call hb) (Step.call hI hb) hv
            · intro vs g w2 hI hF hR K hK
              simp only [Facts, fill, Act.put, z1, z2, z3, z4, z5, Nat.reduceAdd] at hF hR hK ⊢
              obtain ⟨r2, r5, -⟩ := hR
              generalize vs 2 = x2, vs 5 = x5 at *
              go_simp
              refine (gAdd hI r2 r5 (by decide) (by decide)).mono ?_
              rintro e w3 ⟨v3, rfl, hv, hb⟩
              exact hK _ _ _ (hI.call hb) (Step.call hI hb) hv
            · intro vs g w2 hI hF hR K hK
              simp only [Facts, fill, Act.put, z1, z2, z3, z4, z5, Nat.reduceAdd] at hF hR hK ⊢
              obtain ⟨r6, -⟩ := hR
              generalize vs 6 = x6 at *
              have hk := hI.keep0 1000 _ (lift_at g0 (w.heap.size + 1 + 1 + 1 + 1))
              have hbx := hI.box0 1000 _ 2 (lift_at g0 (w.heap.size + 1 + 1 + 1 + 1)) HBX_R4.out
              have qx := r6
              obtain ⟨s7, A7, n7, c7, rfl, hs7⟩ := numG_open r6
              obtain ⟨⟨u0, k0⟩, f0⟩ := hbx 0 (by decide)
              obtain ⟨⟨u1, k1⟩, f1⟩ := hbx 1 (by decide)
              go_simp
              have ht := (((Touch.refl w2 (w.heap.size + 1 + 1 + 1 + 1)).set 0 (.int .i64 s7)).set 1 (.slice A7 n7 c7))
              exact hK undef _ _ (hI.store (by decide) hk ht) (Step.store hI rfl hk ht) ⟨(w.heap.size + 1 + 1 + 1 + 1), .agg #[.int .i64 s7, .slice A7 n7 c7], hk, by rw [ht.size]; exact hI.lt _ _ hk, cells2 k0 k1 (.int .i64 s7) (.slice A7 n7 c7), ((numG_firm _ _) _ _ _ _ _ qx (ht.keeps hk))⟩
          case fin =>
            intro vs g wR5 hI hR
            have r7 := hR 7 (by decide)
            simp only [fill, Act.put, z1, z2, z3, z4, z5] at r7 ⊢
            clear hR
            generalize vs 7 = x7 at *
            have C0_R5_0 := Lib.hid (hI.cell C0_R4_0.out (by first | exact HO0 | exact HO1 | exact HO2 | exact HO3 | exact HO_R19 | exact HO_R210 | exact HO_R311 | exact HO_R412 | assumption))
            have C0_R5_1 := Lib.hid (hI.cell C0_R4_1.out (by first | exact HO0 | exact HO1 | exact HO2 | exact HO3 | exact HO_R19 | exact HO_R210 | exact HO_R311 | exact HO_R412 | assumption))
            have C1_R5_0 := Lib.hid (hI.cell C1_R4_0.out (by first | exact HO0 | exact HO1 | exact HO2 | exact HO3 | exact HO_R19 | exact HO_R210 | exact HO_R311 | exact HO_R412 | assumption))
            have C1_R5_1 := Lib.hid (hI.cell C1_R4_1.out (by first | exact HO0 | exact HO1 | exact HO2 | exact HO3 | exact HO_R19 | exact HO_R210 | exact HO_R311 | exact HO_R412 | assumption))
            have C2_R5_0 := Lib.hid (hI.cell C2_R4_0.out (by first | exact HO0 | exact HO1 | exact HO2 | exact HO3 | exact HO_R19 | exact HO_R210 | exact HO_R311 | exact HO_R412 | assumption))
            have C2_R5_1 := Lib.hid (hI.cell C2_R4_1.out (by first | exact HO0 | exact HO1 | exact HO2 | exact HO3 | exact HO_R19 | exact HO_R210 | exact HO_R311 | exact HO_R412 | assumption))
            have C3_R5_0 := Lib.hid (hI.cell C3_R4_0.out (by first | exact HO0 | exact HO1 | exact HO2 | exact HO3 | exact HO_R19 | exact HO_R210 | exact HO_R311 | exact HO_R412 | assumption))
            have C3_R5_1 := Lib.hid (hI.cell C3_R4_1.out (by first | exact HO0 | exact HO1 | exact HO2 | exact HO3 | exact HO_R19 | exact HO_R210 | exact HO_R311 | exact HO_R412 | assumption))
            have CR19_R5_0 := Lib.hid (hI.cell CR19_R4_0.out (by first | exact HO0 | exact HO1 | exact HO2 | exact HO3 | exact HO_R19 | exact HO_R210 | exact HO_R311 | exact HO_R412 | assumption))
            have CR19_R5_1 := Lib.hid (hI.cell CR19_R4_1.out (by first | exact HO0 | exact HO1 | exact HO2 | exact HO3 | exact HO_R19 | exact HO_R210 | exact HO_R311 | exact HO_R412 | assumption))
            have FR19_R5_0 := Lib.hid ((numG_firm _ _) _ _ _ _ _ FR19_R4_0.out hI.carry)
            have FR19_R5_1 := Lib.hid ((signR_firm _) _ _ _ _ _ FR19_R4_1.out hI.carry)
            have CR210_R5_0 := Lib.hid (hI.cell CR210_R4_0.out (by first | exact HO0 | exact HO1 | exact HO2 | exact HO3 | exact HO_R19 | exact HO_R210 | exact HO_R311 | exact HO_R412 | assumption))
            have CR210_R5_1 := Lib.hid (hI.cell CR210_R4_1.out (by first | exact HO0 | exact HO1 | exact HO2 | exact HO3 | exact HO_R19 | exact HO_R210 | exact HO_R311 | exact HO_R412 | assumption))
            have FR210_R5_0 := Lib.hid ((numG_firm _ _) _ _ _ _ _ FR210_R4_0.out hI.carry)
            have FR210_R5_1 := Lib.hid ((signR_firm _) _ _ _ _ _ FR210_R4_1.out hI.carry)
            have CR311_R5_0 := Lib.hid (hI.cell CR311_R4_0.out (by first | exact HO0 | exact HO1 | exact HO2 | exact HO3 | exact HO_R19 | exact HO_R210 | exact HO_R311 | exact HO_R412 | assumption))
            have CR311_R5_1 := Lib.hid (hI.cell CR311_R4_1.out (by first | exact HO0 | exact HO1 | exact HO2 | exact HO3 | exact HO_R19 | exact HO_R210 | exact HO_R311 | exact HO_R412 | assumption))
            have FR311_R5_0 := Lib.hid ((numG_firm _ _) _ _ _ _ _ FR311_R4_0.out hI.carry)
            have FR311_R5_1 := Lib.hid ((signR_firm _) _ _ _ _ _ FR311_R4_1.out hI.carry)
            have CR412_R5_0 := Lib.hid (hI.cell CR412_R4_0.out (by first | exact HO0 | exact HO1 | exact HO2 | exact HO3 | exact HO_R19 | exact HO_R210 | exact HO_R311 | exact HO_R412 | assumption))
            have CR412_R5_1 := Lib.hid (hI.cell CR412_R4_1.out (by first | exact HO0 | exact HO1 | exact HO2 | exact HO3 | exact HO_R19 | exact HO_R210 | exact HO_R311 | exact HO_R412 | assumption))
            have FR412_R5_0 := Lib.hid ((numG_firm _ _) _ _ _ _ _ FR412_R4_0.out hI.carry)
            have FR412_R5_1 := Lib.hid ((signR_firm _) _ _ _ _ _ FR412_R4_1.out hI.carry)
            have hkR58 := hI.keep0 1000 _ (lift_at g0 (w.heap.size + 1 + 1 + 1 + 1))
            obtain ⟨qR58, uR58, hqR58, -, hcR58, hrR58⟩ := r7
            rw [hkR58] at hqR58
            injection hqR58 with hqR58
            subst hqR58
            have qfR58 := hrR58
            obtain ⟨svR58, AvR58, nvR58, cvR58, rfl, hsvR58⟩ := numG_open hrR58
            have FR58_R5_0 := Lib.hid ((numG_firm _ _) _ _ _ _ _ qfR58 hI.back)
            clear qfR58
            have FR58_R5_1 := Lib.hid (numG_sign FR58_R5_0.out)
            have CR58_R5_0 := Lib.hid (hcR58 0 _ rfl)
            have CR58_R5_1 := Lib.hid (hcR58 1 _ rfl)
            clear hcR58 hkR58
            have hBR5 := hI.below
            have HCR5 := hI.next HCR4
            clear hI
            go_wp2
            exact bodyPost_ret (v := .agg #[.int .i64 svR58, .slice AvR58 nvR58 cvR58]) (by simp [results, Tryd.results31, go_sem, CR58_R5_0.out, CR58_R5_1.out]) rfl ⟨_, rfl, (numG_firm _ _) _ _ _ _ _ FR58_R5_0.out keeps_out, hBR5⟩
theorem gRef7Value {c0 : Ctx} {g0 : Gh} {w : World} {xa ya xb yb xc yc xd yd : Int} (hI0 : RInv c0 g0 w) (sxa : S xa) (sya : S ya) (sxb : S xb) (syb : S yb) (sxc : S xc) (syc : S yc) (sxd : S xd) (syd : S yd) :
    Calls Tryd.prog 31 #[.agg #[.int .i64 xa, .int .i64 ya], .agg #[.int .i64 xb, .int .i64 yb], .agg #[.int .i64 xc, .int .i64 yc], .agg #[.int .i64 xd, .int .i64 yd]] w (Gives (NumG 22 (lc xa ya xb yb xc yc xd yd)) g0 w) := gRef7Value0 hI0 sxa sya sxb syb sxc syc sxd syd
set_option maxRecDepth 100000 in
set_option maxHeartbeats 4000000 in
theorem gRef7Side {c0 : Ctx} {g0 : Gh} {w : World} {xa ya xb yb xc yc xd yd : Int} (hI0 : RInv c0 g0 w) (sxa : S xa) (sya : S ya) (sxb : S xb) (syb : S yb) (sxc : S xc) (syc : S yc) (sxd : S xd) (syd : S yd) :
    Calls Tryd.prog 23 #[.agg #[.int .i64 xa, .int .i64 ya], .agg #[.int .i64 xb, .int .i64 yb], .agg #[.int .i64 xc, .int .i64 yc], .agg #[.int .i64 xd, .int .i64 yd]] w (Gives (SignR (lc xa ya xb yb xc yc xd yd * det xa ya xb yb xc yc)) g0 w) := by
  obtain ⟨W, hW⟩ : ∃ W, W = (((w.alloc (.cells #[.int .i64 xa, .int .i64 ya] 24)).alloc (.cells #[.int .i64 xb, .int .i64 yb] 24)).alloc (.cells #[.int .i64 xc, .int .i64 yc] 24)).alloc (.cells #[.int .i64 xd, .int .i64 yd] 24) := ⟨_, rfl⟩
  have hb0 : Below w.heap.size w W := by rw [hW]; exact (((((Below.refl _ _).alloc (Nat.le_refl _) _).alloc (by simp) _).alloc (by simp; omega) _).alloc (by simp; omega) _)
  have HOK := Ctx.ok_lift0 hI0 hb0
  have C0_W_0 := Lib.hid (show W.cell? ⟨w.heap.size, 0, none⟩ = some (.int .i64 xa) by rw [hW]; simp [go_sem])
  have C0_W_1 := Lib.hid (show W.cell? ⟨w.heap.size, 1, none⟩ = some (.int .i64 ya) by rw [hW]; simp [go_sem])
  have HO0 : Off (lift0 g0) (w.heap.size) := lift0_off (hI0.offs _ (by omega))
  have C1_W_0 := Lib.hid (show W.cell? ⟨w.heap.size + 1, 0, none⟩ = some (.int .i64 xb) by rw [hW]; simp [go_sem])
  have C1_W_1 := Lib.hid (show W.cell? ⟨w.heap.size + 1, 1, none⟩ = some (.int .i64 yb) by rw [hW]; simp [go_sem])
  have HO1 : Off (lift0 g0) (w.heap.size + 1) := lift0_off (hI0.offs _ (by omega))
  have C2_W_0 := Lib.hid (show W.cell? ⟨w.heap.size + 1 + 1, 0, none⟩ = some (.int .i64 xc) by rw [hW]; simp [go_sem])
  have C2_W_1 := Lib.hid (show W.cell? ⟨w.heap.size + 1 + 1, 1, none⟩ = some (.int .i64 yc) by rw [hW]; simp [go_sem])
  have HO2 : Off (lift0 g0) (w.heap.size + 1 + 1) := lift0_off (hI0.offs _ (by omega))
  have C3_W_0 := Lib.hid (show W.cell? ⟨w.heap.size + 1 + 1 + 1, 0, none⟩ = some (.int .i64 xd) by rw [hW]; simp [go_sem])
  have C3_W_1 := Lib.hid (show W.cell? ⟨w.heap.size + 1 + 1 + 1, 1, none⟩ = some (.int .i64 yd) by rw [hW]; simp [go_sem])
  have HO3 : Off (lift0 g0) (w.heap.size + 1 + 1 + 1) := lift0_off (hI0.offs _ (by omega))
  have HW := Lib.hid hW
  clear hW
  go_enter Tryd.func23, Tryd.ntmps23
  go_upto_region 1 with (fail)
  rw [← HW.out]
  refine box_plan (c := ⟨w, W, (lift0 g0)⟩) HOK (by kernel_rfl) [[], [], [], [], [(9, 0), (10, 1), (11, 2), (12, 3)], [(13, 4)], [], [], [], [(15, 6), (16, 7), (17, 8)], [(14, 5), (18, 9)], [(19, 10)]] [(9, 0), (10, 1), (11, 2), (12, 3), (13, 4), (14, 5), (15, 6), (16, 7), (17, 8), (18, 9), (19, 10), (8, 11)] [
      (fun v _ _ => v = .agg #[.int .i64 xa, .int .i64 ya]),
      (fun v _ _ => v = .agg #[.int .i64 xb, .int .i64 yb]),
      (fun v _ _ => v = .agg #[.int .i64 xc, .int .i64 yc]),
      (fun v _ _ => v = .agg #[.int .i64 xd, .int .i64 yd]),
      NumG 22 (lc xa ya xb yb xc yc xd yd),
      SignR (lc xa ya xb yb xc yc xd yd),
      (fun v _ _ => v = .agg #[.int .i64 xa, .int .i64 ya]),
      (fun v _ _ => v = .agg #[.int .i64 xb, .int .i64 yb]),
      (fun v _ _ => v = .agg #[.int .i64 xc, .int .i64 yc]),
      SignR (det xa ya xb yb xc yc),
      SignR ((lc xa ya xb yb xc yc xd yd) * (det xa ya xb yb xc yc)),
      SignR ((lc xa ya xb yb xc yc xd yd) * (det xa ya xb yb xc yc))
    ] (fun _ => none) (by kernel_rfl) (by kernel_rfl) ⟨stab_eq, stab_eq, stab_eq, stab_eq, stab_firm (numG_firm _ _), stab_firm (signR_firm _), stab_eq, stab_eq, stab_eq, stab_firm (signR_firm _), stab_firm (signR_firm _), stab_firm (signR_firm _), trivial⟩ ?steps ?fin
  case steps =>
    refine ⟨?_, ?_, ?_, ?_, ?_, ?_, ?_, ?_, ?_, ?_, ?_, ?_, trivial⟩
    · intro vs g w2 hI hF hR K hK
      simp only [Facts, fill, Act.put, z1, z2, z3, z4, z5, Nat.reduceAdd] at hF hR hK ⊢
      have k0 := hI.cell C0_W_0.out (by first | exact HO0 | exact HO1 | exact HO2 | exact HO3 | assumption)
      have k1 := hI.cell C0_W_1.out (by first | exact HO0 | exact HO1 | exact HO2 | exact HO3 | assumption)
      go_simp
      exact hK _ _ _ hI (Step.refl hI) rfl
    · intro vs g w2 hI hF hR K hK
      simp only [Facts, fill, Act.put, z1, z2, z3, z4, z5, Nat.reduceAdd] at hF hR hK ⊢
      have k0 := hI.cell C1_W_0.out (by first | exact HO0 | exact HO1 | exact HO2 | exact HO3 | assumption)
      have k1 := hI.cell C1_W_1.out (by first | exact HO0 | exact HO1 | exact HO2 | exact HO3 | assumption)
      go_simp
      exact hK _ _ _ hI (Step.refl hI) rfl
    · intro vs g w2 hI hF hR K hK
      simp only [Facts, fill, Act.put, z1, z2, z3, z4, z5, Nat.reduceAdd] at hF hR hK ⊢
      have k0 := hI.cell C2_W_0.out (by first | exact HO0 | exact HO1 | exact HO2 | exact HO3 | assumption)
      have k1 := hI.cell C2_W_1.out (by first | exact HO0 | exact HO1 | exact HO2 | exact HO3 | assumption)
      go_simp
      exact hK _ _ _ hI (Step.refl hI) rfl
    · intro vs g w2 hI hF hR K hK
      simp only [Facts, fill, Act.put, z1, z2, z3, z4, z5, Nat.reduceAdd] at hF hR hK ⊢
      have k0 := hI.cell C3_W_0.out (by first | exact HO0 | exact HO1 | exact HO2 | exact HO3 | assumption)
      have k1 := hI.cell C3_W_1.out (by first | exact HO0 | exact HO1 | exact HO2 | exact HO3 | assumption)
      go_simp
      exact hK _ _ _ hI (Step.refl hI) rfl
    · intro vs g w2 hI hF hR K hK
      simp only [Facts, fill, Act.put, z1, z2, z3, z4, z5, Nat.reduceAdd] at hF hR hK ⊢
      obtain ⟨r0, r1, r2, r3, -⟩ := hR
      generalize vs 0 = x0, vs 1 = x1, vs 2 = x2, vs 3 = x3 at *
      subst r0 r1 r2 r3
      go_simp
      refine (gRef7Value hI (by first | assumption | (unfold S; decide)) (by first | assumption | (unfold S; decide)) (by first | assumption | (unfold S; decide)) (by first | assumption | (unfold S; decide)) (by first | assumption | (unfold S; decide)) (by first | assumption | (unfold S; decide)) (by first | assumption | (unfold S; decide)) (by first | assumption | (unfold S; decide))).mono ?_
      rintro e w3 ⟨v3, rfl, hv, hb⟩
      exact hK _ _ _ (hI.call hb) (Step.call hI hb) hv
    · intro vs g w2 hI hF hR K hK
      simp only [Facts, fill, Act.put, z1, z2, z3, z4, z5, Nat.reduceAdd] at hF hR hK ⊢
      obtain ⟨r4, -⟩ := hR
      generalize vs 4 = x4 at *
      obtain ⟨s5, A5, n5, c5, rfl, hs5⟩ := numG_open r4
      go_simp
      exact hK _ _ _ hI (Step.refl hI) hs5
    · intro vs g w2 hI hF hR K hK
      simp only [Facts, fill, Act.put, z1, z2, z3, z4, z5, Nat.reduceAdd] at hF hR hK ⊢
      have k0 := hI.cell C0_W_0.out (by first | exact HO0 | exact HO1 | exact HO2 | exact HO3 | assumption)
      have k1 := hI.cell C0_W_1.out (by first | exact HO0 | exact HO1 | exact HO2 | exact HO3 | assumption)
      go_simp
      exact hK _ _ _ hI (Step.refl hI) rfl
    · intro vs g w2 hI hF hR K hK
      simp only [Facts, fill, Act.put, z1, z2, z3, z4, z5, Nat.reduceAdd] at hF hR hK ⊢
      have k0 := hI.cell C1_W_0.out (by first | exact HO0 | exact HO1 | exact HO2 | exact HO3 | assumption)
      have k1 := hI.cell C1_W_1.out (by first | exact HO0 | exact HO1 | exact HO2 | exact HO3 | assumption)
      go_simp
      exact hK _ _ _ hI (Step.refl hI) rfl
    · intro vs g w2 hI hF hR K hK
      simp only [Facts, fill, Act.put, z1, z2, z3, z4, z5, Nat.reduceAdd] at hF hR hK ⊢
      have k0 := hI.cell C2_W_0.out (by first | exact HO0 | exact HO1 | exact HO2 | exact HO3 | assumption)
      have k1 := hI.cell C2_W_1.out (by first | exact HO0 | exact HO1 | exact HO2 | exact HO3 | assumption)
      go_simp
      exact hK _ _ _ hI (Step.refl hI) rfl
    · intro vs g w2 hI hF hR K hK
      simp only [Facts, fill, Act.put, z1, z2, z3, z4, z5, Nat.reduceAdd] at hF hR hK ⊢
      obtain ⟨r6, r7, r8, -⟩ := hR
      generalize vs 6 = x6, vs 7 = x7, vs 8 = x8 at *
      subst r6 r7 r8
      go_simp
      refine (gRef6Sign hI (by first | assumption | (unfold S; decide)) (by first | assumption | (unfold S; decide)) (by first | assumption | (unfold S; decide)) (by first | assumption | (unfold S; decide)) (by first | assumption | (unfold S; decide)) (by first | assumption | (unfold S; decide))).mono ?_
      rintro e w3 ⟨v3, rfl, hv, hb⟩
      exact hK _ _ _ (hI.call hb) (Step.call hI hb) hv
    · intro vs g w2 hI hF hR K hK
      simp only [Facts, fill, Act.put, z1, z2, z3, z4, z5, Nat.reduceAdd] at hF hR hK ⊢
      obtain ⟨r5, r9, -⟩ := hR
      generalize vs 5 = x5, vs 9 = x9 at *
      have q5 := r5
      obtain ⟨s5, rfl, -⟩ := r5
      have q9 := r9
      obtain ⟨s9, rfl, -⟩ := r9
      obtain ⟨he, hn⟩ := signR_mul q5 q9
      clear q5
      clear q9
      go_simp
      exact hK _ _ _ hI (Step.refl hI) hn
    · intro vs g w2 hI hF hR K hK
      simp only [Facts, fill, Act.put, z1, z2, z3, z4, z5, Nat.reduceAdd] at hF hR hK ⊢
      obtain ⟨r10, -⟩ := hR
      generalize vs 10 = x10 at *
      go_simp
      exact hK _ _ _ hI (Step.refl hI) r10
  case fin =>
    intro vs g wR1 hI hR
    have r11 := hR 11 (by decide)
    simp only [fill, Act.put, z1, z2, z3, z4, z5] at r11 ⊢
    clear hR
    generalize vs 11 = x11 at *
    have C0_R1_0 := Lib.hid (hI.cell C0_W_0.out (by first | exact HO0 | exact HO1 | exact HO2 | exact HO3 | assumption))
    have C0_R1_1 := Lib.hid (hI.cell C0_W_1.out (by first | exact HO0 | exact HO1 | exact HO2 | exact HO3 | assumption))
    have C1_R1_0 := Lib.hid (hI.cell C1_W_0.out (by first | exact HO0 | exact HO1 | exact HO2 | exact HO3 | assumption))
    have C1_R1_1 := Lib.hid (hI.cell C1_W_1.out (by first | exact HO0 | exact HO1 | exact HO2 | exact HO3 | assumption))
    have C2_R1_0 := Lib.hid (hI.cell C2_W_0.out (by first | exact HO0 | exact HO1 | exact HO2 | exact HO3 | assumption))
    have C2_R1_1 := Lib.hid (hI.cell C2_W_1.out (by first | exact HO0 | exact HO1 | exact HO2 | exact HO3 | assumption))
    have C3_R1_0 := Lib.hid (hI.cell C3_W_0.out (by first | exact HO0 | exact HO1 | exact HO2 | exact HO3 | assumption))
    have C3_R1_1 := Lib.hid (hI.cell C3_W_1.out (by first | exact HO0 | exact HO1 | exact HO2 | exact HO3 | assumption))
    have qfR18 := r11
    obtain ⟨svR18, rfl, -⟩ := signR_open r11
    have FR18_R1_0 := Lib.hid ((signR_firm _) _ _ _ _ _ qfR18 hI.back)
    clear qfR18
    have hBR1 := hI.below
    have HCR1 := hI.next HOK
    clear hI
    go_wp2
    go_ret
    exact ⟨_, rfl, (signR_firm _) _ _ _ _ _ FR18_R1_0.out keeps_out0, hBR1⟩
end Go.Proofs.YtehnpmkolabiaaaDoor
