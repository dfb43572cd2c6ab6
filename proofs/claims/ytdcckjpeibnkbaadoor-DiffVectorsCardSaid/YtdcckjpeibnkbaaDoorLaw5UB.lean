/-
  Law DiffVectors, case B. (Written by law5.py.)
-/
import Derived.Test.YtdcckjpeibnkbaaDoorLaw5v
namespace Go.Proofs.YtdcckjpeibnkbaaDoor
open Go.RowKit
set_option linter.unusedSimpArgs false
set_option linter.unusedVariables false

set_option maxRecDepth 100000 in
set_option maxHeartbeats 8000000 in
theorem law5V_B (A0 B0 A1 B1 : Option Addr) (c0 d0 c1 d1 : Nat) (n0 m0 : Nat) (n1 m1 : Nat) (w : World) (hw : Wts w) (hn : ¬ (n0 = 2 ∧ m0 = 2)) :
    Calls Tryd.prog 5 #[.agg #[.slice A0 n0 c0, .slice B0 m0 d0], .agg #[.slice A1 n1 c1, .slice B1 m1 d1]] w fun e w' => e = .returned (.bool true) ∧ Below w.heap.size w w' := by
  obtain ⟨W, hW⟩ : ∃ W, W = (w.alloc (.cells #[.slice A0 n0 c0, .slice B0 m0 d0] 43)).alloc (.cells #[.slice A1 n1 c1, .slice B1 m1 d1] 43) := ⟨_, rfl⟩
  have hb0 : Below w.heap.size w W := by rw [hW]; exact ((Below.refl _ _).alloc (Nat.le_refl _) _).alloc (by simp) _
  have C0_W_0 := Lib.hid (show W.cell? ⟨w.heap.size, 0, none⟩ = some (.slice A0 n0 c0) by rw [hW]; simp [go_sem])
  have C0_W_1 := Lib.hid (show W.cell? ⟨w.heap.size, 1, none⟩ = some (.slice B0 m0 d0) by rw [hW]; simp [go_sem])
  have C1_W_0 := Lib.hid (show W.cell? ⟨w.heap.size + 1, 0, none⟩ = some (.slice A1 n1 c1) by rw [hW]; simp [go_sem])
  have C1_W_1 := Lib.hid (show W.cell? ⟨w.heap.size + 1, 1, none⟩ = some (.slice B1 m1 d1) by rw [hW]; simp [go_sem])
  have HN := Lib.hid hn
  have HW := Lib.hid hW
  clear hW hn
  go_enter Tryd.func5, Tryd.ntmps5
  go_upto_region 1 with (fail)
  rw [← HW.out]
  go_cut [28] (fun s28 wx => wx = W ∧ ∃ t, s28 = .bool t)
  case first =>
    have c0 := C0_W_0.out
    have c1 := C0_W_1.out
    have c2 := C1_W_0.out
    have c3 := C1_W_1.out
    go_wp2
    go_meet
    exact ⟨rfl, _, rfl⟩
  case rest =>
    obtain ⟨rfl, t, rfl⟩ := hcut
    cases t with
    | true =>
      go_upto_region 2 with (fail)
      refine box_plan0 (c := ⟨w, wc, (fun _ => none)⟩) (Ctx.ok_none hb0) [[], [(29, 0)]] [(29, 0), (4, 1)] [
          (fun v _ _ => v = .bool true),
          (fun v _ _ => v = .bool true)
        ] (fun _ => none) (by kernel_rfl) (by kernel_rfl) ⟨stab_eq, stab_eq, trivial⟩ ?steps ?fin
      case steps =>
        refine ⟨?_, ?_, trivial⟩
        · intro vs g w2 hI hF hR K hK
          simp only [Facts, fill, Act.put, z1, z2, z3, z4, z5, Nat.reduceAdd] at hF hR hK ⊢
          go_simp
          refine (gAlive5 hI hw).mono ?_
          rintro e w3 ⟨v3, rfl, hv, hb⟩
          exact hK _ _ _ (hI.call hb) (Step.call hI hb) hv
        · intro vs g w2 hI hF hR K hK
          simp only [Facts, fill, Act.put, z1, z2, z3, z4, z5, Nat.reduceAdd] at hF hR hK ⊢
          obtain ⟨r0, -⟩ := hR
          generalize vs 0 = x0 at *
          subst r0
          go_simp
          exact hK _ _ _ hI (Step.refl hI) rfl
      case fin =>
        intro vs g wR2 hI hR
        have r1 := hR 1 (by decide)
        simp only [fill, Act.put, z1, z2, z3, z4, z5] at r1 ⊢
        clear hR
        generalize vs 1 = x1 at *
        have C0_R2_0 := Lib.hid (hI.cell C0_W_0.out (fun _ h => by cases h))
        have C0_R2_1 := Lib.hid (hI.cell C0_W_1.out (fun _ h => by cases h))
        have C1_R2_0 := Lib.hid (hI.cell C1_W_0.out (fun _ h => by cases h))
        have C1_R2_1 := Lib.hid (hI.cell C1_W_1.out (fun _ h => by cases h))
        subst r1
        have hBR2 := hI.below
        have HCR2 := hI.next (Ctx.ok_none hb0)
        clear hI
        go_wp2
        go_ret
        exact ⟨rfl, hBR2⟩
    | false =>
      go_upto_region 3 with (fail)
      refine box_plan (c := ⟨w, wc, (fun _ => none)⟩) (Ctx.ok_none hb0) (by kernel_rfl) [[], [], [], [], [(5, 2), (30, 0)], [(6, 3), (31, 1)]] [(30, 0), (31, 1), (5, 2), (6, 3)] [
          (fun v _ _ => v = .agg #[.slice A0 n0 c0, .slice B0 m0 d0]),
          (fun v _ _ => v = .agg #[.slice A1 n1 c1, .slice B1 m1 d1]),
          PtrR 2 2,
          PtrR 3 2,
          (fun _ g w => BoxR 2 (fun v _ _ => v = .agg #[.slice A0 n0 c0, .slice B0 m0 d0]) g w),
          (fun _ g w => BoxR 3 (fun v _ _ => v = .agg #[.slice A1 n1 c1, .slice B1 m1 d1]) g w)
        ] (fun i => match i with | 2 => some 4 | 3 => some 5 | _ => none) (by kernel_rfl) (by kernel_rfl) ⟨stab_eq, stab_eq, stab_ptr, stab_ptr, stab_box (firm_eq _) rfl, stab_box (firm_eq _) rfl, trivial⟩ ?steps ?fin
      case steps =>
        refine ⟨?_, ?_, ?_, ?_, ?_, ?_, trivial⟩
        · intro vs g w2 hI hF hR K hK
          simp only [Facts, fill, Act.put, z1, z2, z3, z4, z5, Nat.reduceAdd] at hF hR hK ⊢
          have k0 := hI.cell C0_W_0.out (fun _ h => by cases h)
          have k1 := hI.cell C0_W_1.out (fun _ h => by cases h)
          go_simp
          exact hK _ _ _ hI (Step.refl hI) rfl
        · intro vs g w2 hI hF hR K hK
          simp only [Facts, fill, Act.put, z1, z2, z3, z4, z5, Nat.reduceAdd] at hF hR hK ⊢
          have k0 := hI.cell C1_W_0.out (fun _ h => by cases h)
          have k1 := hI.cell C1_W_1.out (fun _ h => by cases h)
          go_simp
          exact hK _ _ _ hI (Step.refl hI) rfl
        · intro vs g w2 hI hF hR K hK
          simp only [Facts, fill, Act.put, z1, z2, z3, z4, z5, Nat.reduceAdd] at hF hR hK ⊢
          go_simp
          exact hK _ _ _ (hI.alloc _ (hF (by decide)) _) (Step.alloc hI (hF (by decide)) _) ⟨_, rfl, more_at _ _ _, box2' _ _ _ _⟩
        · intro vs g w2 hI hF hR K hK
          simp only [Facts, fill, Act.put, z1, z2, z3, z4, z5, Nat.reduceAdd] at hF hR hK ⊢
          go_simp
          exact hK _ _ _ (hI.alloc _ (hF (by decide)) _) (Step.alloc hI (hF (by decide)) _) ⟨_, rfl, more_at _ _ _, box2' _ _ _ _⟩
        · intro vs g w2 hI hF hR K hK
          simp only [Facts, fill, Act.put, z1, z2, z3, z4, z5, Nat.reduceAdd] at hF hR hK ⊢
          obtain ⟨r2, r0, -⟩ := hR
          generalize vs 2 = x2, vs 0 = x0 at *
          subst r0
          obtain ⟨k, rfl, hk, hbx⟩ := r2
          obtain ⟨⟨u0, k0⟩, f0⟩ := hbx 0 (by decide)
          obtain ⟨⟨u1, k1⟩, f1⟩ := hbx 1 (by decide)
          go_simp
          have ht := (((Touch.refl w2 k).set 0 (.slice A0 n0 c0)).set 1 (.slice B0 m0 d0))
          exact hK undef _ _ (hI.store (by decide) hk ht) (Step.store hI rfl hk ht) ⟨k, .agg #[.slice A0 n0 c0, .slice B0 m0 d0], hk, by rw [ht.size]; exact hI.lt _ _ hk, cells2 k0 k1 (.slice A0 n0 c0) (.slice B0 m0 d0), rfl⟩
        · intro vs g w2 hI hF hR K hK
          simp only [Facts, fill, Act.put, z1, z2, z3, z4, z5, Nat.reduceAdd] at hF hR hK ⊢
          obtain ⟨r3, r1, -⟩ := hR
          generalize vs 3 = x3, vs 1 = x1 at *
          subst r1
          obtain ⟨k, rfl, hk, hbx⟩ := r3
          obtain ⟨⟨u0, k0⟩, f0⟩ := hbx 0 (by decide)
          obtain ⟨⟨u1, k1⟩, f1⟩ := hbx 1 (by decide)
          go_simp
          have ht := (((Touch.refl w2 k).set 0 (.slice A1 n1 c1)).set 1 (.slice B1 m1 d1))
          exact hK undef _ _ (hI.store (by decide) hk ht) (Step.store hI rfl hk ht) ⟨k, .agg #[.slice A1 n1 c1, .slice B1 m1 d1], hk, by rw [ht.size]; exact hI.lt _ _ hk, cells2 k0 k1 (.slice A1 n1 c1) (.slice B1 m1 d1), rfl⟩
      case fin =>
        intro vs g wR3 hI hR
        have r2 := hR 2 (by decide)
        have r3 := hR 3 (by decide)
        have r4 := hR 4 (by decide)
        have r5 := hR 5 (by decide)
        simp only [fill, Act.put, z1, z2, z3, z4, z5] at r2 r3 r4 r5 ⊢
        clear hR
        generalize vs 2 = x2 at *
        generalize vs 3 = x3 at *
        generalize vs 4 = x4 at *
        generalize vs 5 = x5 at *
        have C0_R3_0 := Lib.hid (hI.cell C0_W_0.out (fun _ h => by cases h))
        have C0_R3_1 := Lib.hid (hI.cell C0_W_1.out (fun _ h => by cases h))
        have C1_R3_0 := Lib.hid (hI.cell C1_W_0.out (fun _ h => by cases h))
        have C1_R3_1 := Lib.hid (hI.cell C1_W_1.out (fun _ h => by cases h))
        obtain ⟨pR35, rfl, hkR35, -⟩ := r2
        obtain ⟨qR35, uR35, hqR35, -, hcR35, hrR35⟩ := r4
        rw [hkR35] at hqR35
        injection hqR35 with hqR35
        subst hqR35
        subst hrR35
        have CR35_R3_0 := Lib.hid (hcR35 0 _ rfl)
        have CR35_R3_1 := Lib.hid (hcR35 1 _ rfl)
        clear hcR35 hkR35
        obtain ⟨pR36, rfl, hkR36, -⟩ := r3
        obtain ⟨qR36, uR36, hqR36, -, hcR36, hrR36⟩ := r5
        rw [hkR36] at hqR36
        injection hqR36 with hqR36
        subst hqR36
        subst hrR36
        have CR36_R3_0 := Lib.hid (hcR36 0 _ rfl)
        have CR36_R3_1 := Lib.hid (hcR36 1 _ rfl)
        clear hcR36 hkR36
        have hBR3 := hI.below
        have HCR3 := hI.next (Ctx.ok_none hb0)
        clear hI
        go_upto_region 4 with (fail)
        refine box_plan (c := ⟨w, wR3, (fun _ => none)⟩) HCR3 (by kernel_rfl) [[], [], [(32, 0), (33, 1)], [], [], [(35, 3), (36, 4)], [], [(38, 6)], [], [(40, 8)], [], [(34, 2)], [(37, 5)], [(39, 7)], [(10, 10), (41, 9)]] [(32, 0), (33, 1), (34, 2), (35, 3), (36, 4), (37, 5), (38, 6), (39, 7), (40, 8), (41, 9), (10, 10), (7, 11), (8, 12), (9, 13)] [
            (fun v _ _ => v = .agg #[.slice A0 n0 c0, .slice B0 m0 d0]),
            (fun v _ _ => v = .agg #[.slice A1 n1 c1, .slice B1 m1 d1]),
            LimR 0 0,
            (fun v _ _ => v = .agg #[.slice A0 n0 c0, .slice B0 m0 d0]),
            (fun v _ _ => v = .agg #[.slice A1 n1 c1, .slice B1 m1 d1]),
            LimR 0 0,
            (fun v _ _ => v = .agg #[.slice A0 n0 c0, .slice B0 m0 d0]),
            LimR 0 0,
            (fun v _ _ => v = .agg #[.slice A0 n0 c0, .slice B0 m0 d0]),
            VecZ ,
            PtrR 10 2,
            LimR 0 0,
            LimR 0 0,
            LimR 0 0,
            (fun _ g w => BoxR 10 (VecZ ) g w)
          ] (fun i => match i with | 10 => some 14 | _ => none) (by kernel_rfl) (by kernel_rfl) ⟨stab_eq, stab_eq, stab_firm (limR_firm _ _), stab_eq, stab_eq, stab_firm (limR_firm _ _), stab_eq, stab_firm (limR_firm _ _), stab_eq, stab_firm (vecZ_firm ), stab_ptr, stab_firm (limR_firm _ _), stab_firm (limR_firm _ _), stab_firm (limR_firm _ _), stab_box (vecZ_firm ) rfl, trivial⟩ ?steps ?fin
        case steps =>
          refine ⟨?_, ?_, ?_, ?_, ?_, ?_, ?_, ?_, ?_, ?_, ?_, ?_, ?_, ?_, ?_, trivial⟩
          · intro vs g w2 hI hF hR K hK
            simp only [Facts, fill, Act.put, z1, z2, z3, z4, z5, Nat.reduceAdd] at hF hR hK ⊢
            have k0 := hI.cell CR35_R3_0.out (fun _ h => by cases h)
            have k1 := hI.cell CR35_R3_1.out (fun _ h => by cases h)
            go_simp
            exact hK _ _ _ hI (Step.refl hI) rfl
          · intro vs g w2 hI hF hR K hK
            simp only [Facts, fill, Act.put, z1, z2, z3, z4, z5, Nat.reduceAdd] at hF hR hK ⊢
            have k0 := hI.cell CR36_R3_0.out (fun _ h => by cases h)
            have k1 := hI.cell CR36_R3_1.out (fun _ h => by cases h)
            go_simp
            exact hK _ _ _ hI (Step.refl hI) rfl
          · intro vs g w2 hI hF hR K hK
            simp only [Facts, fill, Act.put, z1, z2, z3, z4, z5, Nat.reduceAdd] at hF hR hK ⊢
            obtain ⟨r0, r1, -⟩ := hR
            generalize vs 0 = x0, vs 1 = x1 at *
            subst r0 r1
            go_simp
            refine (gCrossNo hI hw (by first | exact HN.out | (have := HN.out; omega))).mono ?_
            rintro e w3 ⟨v3, rfl, hv, hb⟩
            exact hK _ _ _ (hI.call hb) (Step.call hI hb) hv
          · intro vs g w2 hI hF hR K hK
            simp only [Facts, fill, Act.put, z1, z2, z3, z4, z5, Nat.reduceAdd] at hF hR hK ⊢
            have k0 := hI.cell CR35_R3_0.out (fun _ h => by cases h)
            have k1 := hI.cell CR35_R3_1.out (fun _ h => by cases h)
            go_simp
            exact hK _ _ _ hI (Step.refl hI) rfl
          · intro vs g w2 hI hF hR K hK
            simp only [Facts, fill, Act.put, z1, z2, z3, z4, z5, Nat.reduceAdd] at hF hR hK ⊢
            have k0 := hI.cell CR36_R3_0.out (fun _ h => by cases h)
            have k1 := hI.cell CR36_R3_1.out (fun _ h => by cases h)
            go_simp
            exact hK _ _ _ hI (Step.refl hI) rfl
          · intro vs g w2 hI hF hR K hK
            simp only [Facts, fill, Act.put, z1, z2, z3, z4, z5, Nat.reduceAdd] at hF hR hK ⊢
            obtain ⟨r3, r4, -⟩ := hR
            generalize vs 3 = x3, vs 4 = x4 at *
            subst r3 r4
            go_simp
            refine (gDotNo hI hw (by first | exact HN.out | (have := HN.out; omega))).mono ?_
            rintro e w3 ⟨v3, rfl, hv, hb⟩
            exact hK _ _ _ (hI.call hb) (Step.call hI hb) hv
          · intro vs g w2 hI hF hR K hK
            simp only [Facts, fill, Act.put, z1, z2, z3, z4, z5, Nat.reduceAdd] at hF hR hK ⊢
            have k0 := hI.cell CR35_R3_0.out (fun _ h => by cases h)
            have k1 := hI.cell CR35_R3_1.out (fun _ h => by cases h)
            go_simp
            exact hK _ _ _ hI (Step.refl hI) rfl
          · intro vs g w2 hI hF hR K hK
            simp only [Facts, fill, Act.put, z1, z2, z3, z4, z5, Nat.reduceAdd] at hF hR hK ⊢
            obtain ⟨r6, -⟩ := hR
            generalize vs 6 = x6 at *
            subst r6
            go_simp
            refine (gNormNo hI hw (by first | exact HN.out | (have := HN.out; omega))).mono ?_
            rintro e w3 ⟨v3, rfl, hv, hb⟩
            exact hK _ _ _ (hI.call hb) (Step.call hI hb) hv
          · intro vs g w2 hI hF hR K hK
            simp only [Facts, fill, Act.put, z1, z2, z3, z4, z5, Nat.reduceAdd] at hF hR hK ⊢
            have k0 := hI.cell CR35_R3_0.out (fun _ h => by cases h)
            have k1 := hI.cell CR35_R3_1.out (fun _ h => by cases h)
            go_simp
            exact hK _ _ _ hI (Step.refl hI) rfl
          · intro vs g w2 hI hF hR K hK
            simp only [Facts, fill, Act.put, z1, z2, z3, z4, z5, Nat.reduceAdd] at hF hR hK ⊢
            obtain ⟨r8, -⟩ := hR
            generalize vs 8 = x8 at *
            subst r8
            go_simp
            refine (gVNegNo hI hw (by first | exact HN.out | (have := HN.out; omega))).mono ?_
            rintro e w3 ⟨v3, rfl, hv, hb⟩
            exact hK _ _ _ (hI.call hb) (Step.call hI hb) hv
          · intro vs g w2 hI hF hR K hK
            simp only [Facts, fill, Act.put, z1, z2, z3, z4, z5, Nat.reduceAdd] at hF hR hK ⊢
            go_simp
            exact hK _ _ _ (hI.alloc _ (hF (by decide)) _) (Step.alloc hI (hF (by decide)) _) ⟨_, rfl, more_at _ _ _, box2' _ _ _ _⟩
          · intro vs g w2 hI hF hR K hK
            simp only [Facts, fill, Act.put, z1, z2, z3, z4, z5, Nat.reduceAdd] at hF hR hK ⊢
            obtain ⟨r2, -⟩ := hR
            generalize vs 2 = x2 at *
            go_simp
            exact hK _ _ _ hI (Step.refl hI) r2
          · intro vs g w2 hI hF hR K hK
            simp only [Facts, fill, Act.put, z1, z2, z3, z4, z5, Nat.reduceAdd] at hF hR hK ⊢
            obtain ⟨r5, -⟩ := hR
            generalize vs 5 = x5 at *
            go_simp
            exact hK _ _ _ hI (Step.refl hI) r5
          · intro vs g w2 hI hF hR K hK
            simp only [Facts, fill, Act.put, z1, z2, z3, z4, z5, Nat.reduceAdd] at hF hR hK ⊢
            obtain ⟨r7, -⟩ := hR
            generalize vs 7 = x7 at *
            go_simp
            exact hK _ _ _ hI (Step.refl hI) r7
          · intro vs g w2 hI hF hR K hK
            simp only [Facts, fill, Act.put, z1, z2, z3, z4, z5, Nat.reduceAdd] at hF hR hK ⊢
            obtain ⟨r10, r9, -⟩ := hR
            generalize vs 10 = x10, vs 9 = x9 at *
            obtain ⟨k, rfl, hk, hbx⟩ := r10
            have qx := r9
            obtain ⟨A14, c14, B14, d14, rfl⟩ := vecZ_open r9
            obtain ⟨⟨u0, k0⟩, f0⟩ := hbx 0 (by decide)
            obtain ⟨⟨u1, k1⟩, f1⟩ := hbx 1 (by decide)
            go_simp
            have ht := (((Touch.refl w2 k).set 0 (.slice A14 0 c14)).set 1 (.slice B14 0 d14))
            exact hK undef _ _ (hI.store (by decide) hk ht) (Step.store hI rfl hk ht) ⟨k, .agg #[.slice A14 0 c14, .slice B14 0 d14], hk, by rw [ht.size]; exact hI.lt _ _ hk, cells2 k0 k1 (.slice A14 0 c14) (.slice B14 0 d14), ((vecZ_firm ) _ _ _ _ _ qx (ht.keeps hk))⟩
        case fin =>
          intro vs g wR4 hI hR
          have r10 := hR 10 (by decide)
          have r11 := hR 11 (by decide)
          have r12 := hR 12 (by decide)
          have r13 := hR 13 (by decide)
          have r14 := hR 14 (by decide)
          simp only [fill, Act.put, z1, z2, z3, z4, z5] at r10 r11 r12 r13 r14 ⊢
          clear hR
          generalize vs 10 = x10 at *
          generalize vs 11 = x11 at *
          generalize vs 12 = x12 at *
          generalize vs 13 = x13 at *
          generalize vs 14 = x14 at *
          have C0_R4_0 := Lib.hid (hI.cell C0_R3_0.out (fun _ h => by cases h))
          have C0_R4_1 := Lib.hid (hI.cell C0_R3_1.out (fun _ h => by cases h))
          have C1_R4_0 := Lib.hid (hI.cell C1_R3_0.out (fun _ h => by cases h))
          have C1_R4_1 := Lib.hid (hI.cell C1_R3_1.out (fun _ h => by cases h))
          have CR35_R4_0 := Lib.hid (hI.cell CR35_R3_0.out (fun _ h => by cases h))
          have CR35_R4_1 := Lib.hid (hI.cell CR35_R3_1.out (fun _ h => by cases h))
          have CR36_R4_0 := Lib.hid (hI.cell CR36_R3_0.out (fun _ h => by cases h))
          have CR36_R4_1 := Lib.hid (hI.cell CR36_R3_1.out (fun _ h => by cases h))
          obtain ⟨pR410, rfl, hkR410, -⟩ := r10
          obtain ⟨qR410, uR410, hqR410, -, hcR410, hrR410⟩ := r14
          rw [hkR410] at hqR410
          injection hqR410 with hqR410
          subst hqR410
          have qfR410 := hrR410
          obtain ⟨AvR410, cvR410, BvR410, dvR410, rfl⟩ := vecZ_open hrR410
          have FR410_R4_0 := Lib.hid ((vecZ_firm ) _ _ _ _ _ qfR410 hI.back)
          clear qfR410
          have CR410_R4_0 := Lib.hid (hcR410 0 _ rfl)
          have CR410_R4_1 := Lib.hid (hcR410 1 _ rfl)
          clear hcR410 hkR410
          have qfR47 := r11
          obtain ⟨AvR47, cvR47, rfl⟩ := limR_open r11
          have FR47_R4_0 := Lib.hid ((limR_firm _ _) _ _ _ _ _ qfR47 hI.back)
          clear qfR47
          have qfR48 := r12
          obtain ⟨AvR48, cvR48, rfl⟩ := limR_open r12
          have FR48_R4_0 := Lib.hid ((limR_firm _ _) _ _ _ _ _ qfR48 hI.back)
          clear qfR48
          have qfR49 := r13
          obtain ⟨AvR49, cvR49, rfl⟩ := limR_open r13
          have FR49_R4_0 := Lib.hid ((limR_firm _ _) _ _ _ _ _ qfR49 hI.back)
          clear qfR49
          have hBR4 := hI.below
          have HCR4 := hI.next HCR3
          clear hI
          go_upto_region 5 with (fail)
          refine box_plan0 (c := ⟨w, wR4, (fun _ => none)⟩) HCR4 [[], [(42, 0)], [(43, 1)]] [(42, 0), (43, 1), (44, 2)] [
              (fun v _ _ => v = .agg #[.slice A0 n0 c0, .slice B0 m0 d0]),
              (fun v _ _ => v = .bool false),
              (fun v _ _ => v = .bool true)
            ] (fun _ => none) (by kernel_rfl) (by kernel_rfl) ⟨stab_eq, stab_eq, stab_eq, trivial⟩ ?steps ?fin
          case steps =>
            refine ⟨?_, ?_, ?_, trivial⟩
            · intro vs g w2 hI hF hR K hK
              simp only [Facts, fill, Act.put, z1, z2, z3, z4, z5, Nat.reduceAdd] at hF hR hK ⊢
              have k0 := hI.cell C0_R4_0.out (fun _ h => by cases h)
              have k1 := hI.cell C0_R4_1.out (fun _ h => by cases h)
              go_simp
              exact hK _ _ _ hI (Step.refl hI) rfl
            · intro vs g w2 hI hF hR K hK
              simp only [Facts, fill, Act.put, z1, z2, z3, z4, z5, Nat.reduceAdd] at hF hR hK ⊢
              obtain ⟨r0, -⟩ := hR
              generalize vs 0 = x0 at *
              subst r0
              go_simp
              refine (gIsNo hI (by first | exact HN.out | omega)).mono ?_
              rintro e w3 ⟨v3, rfl, hv, hb⟩
              exact hK _ _ _ (hI.call hb) (Step.call hI hb) hv
            · intro vs g w2 hI hF hR K hK
              simp only [Facts, fill, Act.put, z1, z2, z3, z4, z5, Nat.reduceAdd] at hF hR hK ⊢
              obtain ⟨r1, -⟩ := hR
              generalize vs 1 = x1 at *
              subst r1
              go_simp
              exact hK _ _ _ hI (Step.refl hI) rfl
          case fin =>
            intro vs g wR5 hI hR
            have r2 := hR 2 (by decide)
            simp only [fill, Act.put, z1, z2, z3, z4, z5] at r2 ⊢
            clear hR
            generalize vs 2 = x2 at *
            have C0_R5_0 := Lib.hid (hI.cell C0_R4_0.out (fun _ h => by cases h))
            have C0_R5_1 := Lib.hid (hI.cell C0_R4_1.out (fun _ h => by cases h))
            have C1_R5_0 := Lib.hid (hI.cell C1_R4_0.out (fun _ h => by cases h))
            have C1_R5_1 := Lib.hid (hI.cell C1_R4_1.out (fun _ h => by cases h))
            have CR35_R5_0 := Lib.hid (hI.cell CR35_R4_0.out (fun _ h => by cases h))
            have CR35_R5_1 := Lib.hid (hI.cell CR35_R4_1.out (fun _ h => by cases h))
            have CR36_R5_0 := Lib.hid (hI.cell CR36_R4_0.out (fun _ h => by cases h))
            have CR36_R5_1 := Lib.hid (hI.cell CR36_R4_1.out (fun _ h => by cases h))
            have CR410_R5_0 := Lib.hid (hI.cell CR410_R4_0.out (fun _ h => by cases h))
            have CR410_R5_1 := Lib.hid (hI.cell CR410_R4_1.out (fun _ h => by cases h))
            have FR410_R5_0 := Lib.hid ((vecZ_firm ) _ _ _ _ _ FR410_R4_0.out hI.carry)
            have FR47_R5_0 := Lib.hid ((limR_firm _ _) _ _ _ _ _ FR47_R4_0.out hI.carry)
            have FR48_R5_0 := Lib.hid ((limR_firm _ _) _ _ _ _ _ FR48_R4_0.out hI.carry)
            have FR49_R5_0 := Lib.hid ((limR_firm _ _) _ _ _ _ _ FR49_R4_0.out hI.carry)
            subst r2
            have hBR5 := hI.below
            have HCR5 := hI.next HCR4
            clear hI
            go_upto_region 6 with (fail)
            refine box_plan0 (c := ⟨w, wR5, (fun _ => none)⟩) HCR5 [[], [(45, 0)], [(46, 1)], [(46, 1), (47, 2)], [(46, 1)], [(46, 1), (49, 4)], [(46, 1), (48, 3), (50, 5)], [(46, 1)], [(46, 1), (52, 7)], [(46, 1), (51, 6), (53, 8)], [(46, 1)], [(46, 1), (55, 10)], [(46, 1), (56, 11)], [(46, 1), (54, 9), (57, 12)], [(46, 1)], [(46, 1), (59, 14)], [(46, 1), (60, 15)], [(46, 1), (58, 13), (61, 16)], [(46, 1), (62, 17)], [(46, 1), (63, 18)], [(64, 19)]] [(45, 0), (46, 1), (47, 2), (48, 3), (49, 4), (50, 5), (51, 6), (52, 7), (53, 8), (54, 9), (55, 10), (56, 11), (57, 12), (58, 13), (59, 14), (60, 15), (61, 16), (62, 17), (63, 18), (64, 19), (4, 20)] [
                (fun v _ _ => v = .bool true),
                (fun v _ _ => v = .bool true),
                (fun v _ _ => v = .slice AvR47 0 cvR47),
                (fun v _ _ => v = .int .i64 0),
                (fun v _ _ => v = .slice AvR48 0 cvR48),
                (fun v _ _ => v = .int .i64 0),
                (fun v _ _ => v = .int .i64 0),
                (fun v _ _ => v = .slice AvR49 0 cvR49),
                (fun v _ _ => v = .int .i64 0),
                (fun v _ _ => v = .int .i64 0),
                (fun v _ _ => v = .pointer (some ⟨pR410, 0, none⟩)),
                (fun v _ _ => v = .slice AvR410 0 cvR410),
                (fun v _ _ => v = .int .i64 0),
                (fun v _ _ => v = .int .i64 0),
                (fun v _ _ => v = .pointer (some ⟨pR410, 1, none⟩)),
                (fun v _ _ => v = .slice BvR410 0 dvR410),
                (fun v _ _ => v = .int .i64 0),
                (fun v _ _ => v = .int .i64 0),
                (fun v _ _ => v = .bool true),
                (fun v _ _ => v = .bool true),
                (fun v _ _ => v = .bool true)
              ] (fun _ => none) (by kernel_rfl) (by kernel_rfl) ⟨stab_eq, stab_eq, stab_eq, stab_eq, stab_eq, stab_eq, stab_eq, stab_eq, stab_eq, stab_eq, stab_eq, stab_eq, stab_eq, stab_eq, stab_eq, stab_eq, stab_eq, stab_eq, stab_eq, stab_eq, stab_eq, trivial⟩ ?steps ?fin
            case steps =>
              refine ⟨?_, ?_, ?_, ?_, ?_, ?_, ?_, ?_, ?_, ?_, ?_, ?_, ?_, ?_, ?_, ?_, ?_, ?_, ?_, ?_, ?_, trivial⟩
              · intro vs g w2 hI hF hR K hK
                simp only [Facts, fill, Act.put, z1, z2, z3, z4, z5, Nat.reduceAdd] at hF hR hK ⊢
                go_simp
                refine (gAlive5 hI hw).mono ?_
                rintro e w3 ⟨v3, rfl, hv, hb⟩
                exact hK _ _ _ (hI.call hb) (Step.call hI hb) hv
              · intro vs g w2 hI hF hR K hK
                simp only [Facts, fill, Act.put, z1, z2, z3, z4, z5, Nat.reduceAdd] at hF hR hK ⊢
                obtain ⟨r0, -⟩ := hR
                generalize vs 0 = x0 at *
                subst r0
                go_simp
                exact hK _ _ _ hI (Step.refl hI) rfl
              · intro vs g w2 hI hF hR K hK
                simp only [Facts, fill, Act.put, z1, z2, z3, z4, z5, Nat.reduceAdd] at hF hR hK ⊢
                obtain ⟨r1, -⟩ := hR
                generalize vs 1 = x1 at *
                subst r1
                go_simp
                exact hK _ _ _ hI (Step.refl hI) rfl
              · intro vs g w2 hI hF hR K hK
                simp only [Facts, fill, Act.put, z1, z2, z3, z4, z5, Nat.reduceAdd] at hF hR hK ⊢
                obtain ⟨r1, r2, -⟩ := hR
                generalize vs 1 = x1, vs 2 = x2 at *
                subst r1 r2
                go_simp
                exact hK _ _ _ hI (Step.refl hI) rfl
              · intro vs g w2 hI hF hR K hK
                simp only [Facts, fill, Act.put, z1, z2, z3, z4, z5, Nat.reduceAdd] at hF hR hK ⊢
                obtain ⟨r1, -⟩ := hR
                generalize vs 1 = x1 at *
                subst r1
                go_simp
                exact hK _ _ _ hI (Step.refl hI) rfl
              · intro vs g w2 hI hF hR K hK
                simp only [Facts, fill, Act.put, z1, z2, z3, z4, z5, Nat.reduceAdd] at hF hR hK ⊢
                obtain ⟨r1, r4, -⟩ := hR
                generalize vs 1 = x1, vs 4 = x4 at *
                subst r1 r4
                go_simp
                exact hK _ _ _ hI (Step.refl hI) rfl
              · intro vs g w2 hI hF hR K hK
                simp only [Facts, fill, Act.put, z1, z2, z3, z4, z5, Nat.reduceAdd] at hF hR hK ⊢
                obtain ⟨r1, r3, r5, -⟩ := hR
                generalize vs 1 = x1, vs 3 = x3, vs 5 = x5 at *
                subst r1 r3 r5
                go_simp
                exact hK _ _ _ hI (Step.refl hI) rfl
              · intro vs g w2 hI hF hR K hK
                simp only [Facts, fill, Act.put, z1, z2, z3, z4, z5, Nat.reduceAdd] at hF hR hK ⊢
                obtain ⟨r1, -⟩ := hR
                generalize vs 1 = x1 at *
                subst r1
                go_simp
                exact hK _ _ _ hI (Step.refl hI) rfl
              · intro vs g w2 hI hF hR K hK
                simp only [Facts, fill, Act.put, z1, z2, z3, z4, z5, Nat.reduceAdd] at hF hR hK ⊢
                obtain ⟨r1, r7, -⟩ := hR
                generalize vs 1 = x1, vs 7 = x7 at *
                subst r1 r7
                go_simp
                exact hK _ _ _ hI (Step.refl hI) rfl
              · intro vs g w2 hI hF hR K hK
                simp only [Facts, fill, Act.put, z1, z2, z3, z4, z5, Nat.reduceAdd] at hF hR hK ⊢
                obtain ⟨r1, r6, r8, -⟩ := hR
                generalize vs 1 = x1, vs 6 = x6, vs 8 = x8 at *
                subst r1 r6 r8
                go_simp
                exact hK _ _ _ hI (Step.refl hI) rfl
              · intro vs g w2 hI hF hR K hK
                simp only [Facts, fill, Act.put, z1, z2, z3, z4, z5, Nat.reduceAdd] at hF hR hK ⊢
                obtain ⟨r1, -⟩ := hR
                generalize vs 1 = x1 at *
                subst r1
                go_simp
                exact hK _ _ _ hI (Step.refl hI) rfl
              · intro vs g w2 hI hF hR K hK
                simp only [Facts, fill, Act.put, z1, z2, z3, z4, z5, Nat.reduceAdd] at hF hR hK ⊢
                obtain ⟨r1, r10, -⟩ := hR
                generalize vs 1 = x1, vs 10 = x10 at *
                subst r1 r10
                have k0 := hI.cell CR410_R5_0.out (fun _ h => by cases h)
                go_simp
                exact hK _ _ _ hI (Step.refl hI) rfl
              · intro vs g w2 hI hF hR K hK
                simp only [Facts, fill, Act.put, z1, z2, z3, z4, z5, Nat.reduceAdd] at hF hR hK ⊢
                obtain ⟨r1, r11, -⟩ := hR
                generalize vs 1 = x1, vs 11 = x11 at *
                subst r1 r11
                go_simp
                exact hK _ _ _ hI (Step.refl hI) rfl
              · intro vs g w2 hI hF hR K hK
                simp only [Facts, fill, Act.put, z1, z2, z3, z4, z5, Nat.reduceAdd] at hF hR hK ⊢
                obtain ⟨r1, r9, r12, -⟩ := hR
                generalize vs 1 = x1, vs 9 = x9, vs 12 = x12 at *
                subst r1 r9 r12
                go_simp
                exact hK _ _ _ hI (Step.refl hI) rfl
              · intro vs g w2 hI hF hR K hK
                simp only [Facts, fill, Act.put, z1, z2, z3, z4, z5, Nat.reduceAdd] at hF hR hK ⊢
                obtain ⟨r1, -⟩ := hR
                generalize vs 1 = x1 at *
                subst r1
                go_simp
                exact hK _ _ _ hI (Step.refl hI) rfl
              · intro vs g w2 hI hF hR K hK
                simp only [Facts, fill, Act.put, z1, z2, z3, z4, z5, Nat.reduceAdd] at hF hR hK ⊢
                obtain ⟨r1, r14, -⟩ := hR
                generalize vs 1 = x1, vs 14 = x14 at *
                subst r1 r14
                have k0 := hI.cell CR410_R5_1.out (fun _ h => by cases h)
                go_simp
                exact hK _ _ _ hI (Step.refl hI) rfl
              · intro vs g w2 hI hF hR K hK
                simp only [Facts, fill, Act.put, z1, z2, z3, z4, z5, Nat.reduceAdd] at hF hR hK ⊢
                obtain ⟨r1, r15, -⟩ := hR
                generalize vs 1 = x1, vs 15 = x15 at *
                subst r1 r15
                go_simp
                exact hK _ _ _ hI (Step.refl hI) rfl
              · intro vs g w2 hI hF hR K hK
                simp only [Facts, fill, Act.put, z1, z2, z3, z4, z5, Nat.reduceAdd] at hF hR hK ⊢
                obtain ⟨r1, r13, r16, -⟩ := hR
                generalize vs 1 = x1, vs 13 = x13, vs 16 = x16 at *
                subst r1 r13 r16
                go_simp
                exact hK _ _ _ hI (Step.refl hI) rfl
              · intro vs g w2 hI hF hR K hK
                simp only [Facts, fill, Act.put, z1, z2, z3, z4, z5, Nat.reduceAdd] at hF hR hK ⊢
                obtain ⟨r1, r17, -⟩ := hR
                generalize vs 1 = x1, vs 17 = x17 at *
                subst r1 r17
                go_simp
                exact hK _ _ _ hI (Step.refl hI) rfl
              · intro vs g w2 hI hF hR K hK
                simp only [Facts, fill, Act.put, z1, z2, z3, z4, z5, Nat.reduceAdd] at hF hR hK ⊢
                obtain ⟨r1, r18, -⟩ := hR
                generalize vs 1 = x1, vs 18 = x18 at *
                subst r1 r18
                go_simp
                exact hK _ _ _ hI (Step.refl hI) rfl
              · intro vs g w2 hI hF hR K hK
                simp only [Facts, fill, Act.put, z1, z2, z3, z4, z5, Nat.reduceAdd] at hF hR hK ⊢
                obtain ⟨r19, -⟩ := hR
                generalize vs 19 = x19 at *
                subst r19
                go_simp
                exact hK _ _ _ hI (Step.refl hI) rfl
            case fin =>
              intro vs g wR6 hI hR
              have r20 := hR 20 (by decide)
              simp only [fill, Act.put, z1, z2, z3, z4, z5] at r20 ⊢
              clear hR
              generalize vs 20 = x20 at *
              have C0_R6_0 := Lib.hid (hI.cell C0_R5_0.out (fun _ h => by cases h))
              have C0_R6_1 := Lib.hid (hI.cell C0_R5_1.out (fun _ h => by cases h))
              have C1_R6_0 := Lib.hid (hI.cell C1_R5_0.out (fun _ h => by cases h))
              have C1_R6_1 := Lib.hid (hI.cell C1_R5_1.out (fun _ h => by cases h))
              have CR35_R6_0 := Lib.hid (hI.cell CR35_R5_0.out (fun _ h => by cases h))
              have CR35_R6_1 := Lib.hid (hI.cell CR35_R5_1.out (fun _ h => by cases h))
              have CR36_R6_0 := Lib.hid (hI.cell CR36_R5_0.out (fun _ h => by cases h))
              have CR36_R6_1 := Lib.hid (hI.cell CR36_R5_1.out (fun _ h => by cases h))
              have CR410_R6_0 := Lib.hid (hI.cell CR410_R5_0.out (fun _ h => by cases h))
              have CR410_R6_1 := Lib.hid (hI.cell CR410_R5_1.out (fun _ h => by cases h))
              have FR410_R6_0 := Lib.hid ((vecZ_firm ) _ _ _ _ _ FR410_R5_0.out hI.carry)
              have FR47_R6_0 := Lib.hid ((limR_firm _ _) _ _ _ _ _ FR47_R5_0.out hI.carry)
              have FR48_R6_0 := Lib.hid ((limR_firm _ _) _ _ _ _ _ FR48_R5_0.out hI.carry)
              have FR49_R6_0 := Lib.hid ((limR_firm _ _) _ _ _ _ _ FR49_R5_0.out hI.carry)
              subst r20
              have hBR6 := hI.below
              have HCR6 := hI.next HCR5
              clear hI
              go_wp2
              go_ret
              exact ⟨rfl, hBR6⟩
end Go.Proofs.YtdcckjpeibnkbaaDoor
