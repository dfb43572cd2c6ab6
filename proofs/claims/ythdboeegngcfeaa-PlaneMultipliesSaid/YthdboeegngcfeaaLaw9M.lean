/-
  Law PlaneMultiplies. (Written by law9.py.)
-/
import Derived.Test.YthdboeegngcfeaaLaw9a
namespace Go.Proofs.Ythdboeegngcfeaa
open Go.RowKit
set_option maxRecDepth 100000
set_option linter.unusedVariables false
set_option linter.unusedSimpArgs false

set_option maxRecDepth 100000 in
set_option maxHeartbeats 4000000 in
theorem law9M_F (xa ya xb yb : Int) (sxa : S xa) (sya : S ya) (sxb : S xb) (syb : S yb) (w : World) (ha : smallB xa ya = false) :
    Calls Try.prog 4 #[.agg #[.int .i64 xa, .int .i64 ya], .agg #[.int .i64 xb, .int .i64 yb]] w fun e w' => e = .returned (.bool true) ∧ Below w.heap.size w w' := by
  have Ha := Lib.hid ha
  clear ha
  obtain ⟨W, hW⟩ : ∃ W, W = (w.alloc (.cells #[.int .i64 xa, .int .i64 ya] 23)).alloc (.cells #[.int .i64 xb, .int .i64 yb] 23) := ⟨_, rfl⟩
  have hb0 : Below w.heap.size w W := by rw [hW]; exact (((Below.refl _ _).alloc (Nat.le_refl _) _).alloc (by simp) _)
  have Ca_W_0 := Lib.hid (show W.cell? ⟨w.heap.size, 0, none⟩ = some (.int .i64 xa) by rw [hW]; simp [go_sem])
  have Ca_W_1 := Lib.hid (show W.cell? ⟨w.heap.size, 1, none⟩ = some (.int .i64 ya) by rw [hW]; simp [go_sem])
  have Cb_W_0 := Lib.hid (show W.cell? ⟨w.heap.size + 1, 0, none⟩ = some (.int .i64 xb) by rw [hW]; simp [go_sem])
  have Cb_W_1 := Lib.hid (show W.cell? ⟨w.heap.size + 1, 1, none⟩ = some (.int .i64 yb) by rw [hW]; simp [go_sem])
  have HW := Lib.hid hW
  clear hW
  go_enter Try.func4, Try.ntmps4
  go_upto_region 1 with (fail)
  rw [← HW.out]
  refine box_plan0 (c := ⟨w, W, (fun _ => none)⟩) (Ctx.ok_none hb0) [[], [], [(11, 0), (12, 1)], [(13, 2)], [(10, 3)], [(10, 3)], [], [(5, 6), (14, 4)], [(15, 5)]] [(11, 0), (12, 1), (13, 2), (10, 3), (14, 4), (15, 5), (5, 6), (6, 8)] [
      (fun v _ _ => v = .agg #[.int .i64 xa, .int .i64 ya]),
      (fun v _ _ => v = .agg #[.int .i64 xb, .int .i64 yb]),
      (fun v _ _ => v = .tuple #[.agg #[.int .i64 0, .int .i64 0], .int .i64 3]),
      (fun v _ _ => v = .tuple #[.agg #[.int .i64 0, .int .i64 0], .int .i64 3]),
      (fun v _ _ => v = .agg #[.int .i64 0, .int .i64 0]),
      (fun v _ _ => v = .int .i64 3),
      PtrR 6 2,
      (fun _ g w => BoxR 6 (fun v _ _ => v = .agg #[.int .i64 0, .int .i64 0]) g w),
      (fun v _ _ => v = .int .i64 3)
    ] (fun i => match i with | 6 => some 7 | _ => none) (by kernel_rfl) (by kernel_rfl) ⟨stab_eq, stab_eq, stab_eq, stab_eq, stab_eq, stab_eq, stab_ptr, stab_box (firm_eq _) rfl, stab_eq, trivial⟩ ?steps ?fin
  case steps =>
    refine ⟨?_, ?_, ?_, ?_, ?_, ?_, ?_, ?_, ?_, trivial⟩
    · intro vs g w2 hI hF hR K hK
      simp only [Facts, fill, Act.put, z1, z2, z3, z4, z5, Nat.reduceAdd] at hF hR hK ⊢
      have k0 := hI.cell Ca_W_0.out (fun _ h => by cases h)
      have k1 := hI.cell Ca_W_1.out (fun _ h => by cases h)
      go_simp
      exact hK _ _ _ hI (Step.refl hI) rfl
    · intro vs g w2 hI hF hR K hK
      simp only [Facts, fill, Act.put, z1, z2, z3, z4, z5, Nat.reduceAdd] at hF hR hK ⊢
      have k0 := hI.cell Cb_W_0.out (fun _ h => by cases h)
      have k1 := hI.cell Cb_W_1.out (fun _ h => by cases h)
      go_simp
      exact hK _ _ _ hI (Step.refl hI) rfl
    · intro vs g w2 hI hF hR K hK
      simp only [Facts, fill, Act.put, z1, z2, z3, z4, z5, Nat.reduceAdd] at hF hR hK ⊢
      obtain ⟨r0, r1, -⟩ := hR
      generalize vs 0 = x0, vs 1 = x1 at *
      subst r0 r1
      go_simp
      refine (gPlProductNo hI (by first | assumption | (unfold S; decide) | exact Bd.s (by first | assumption | exact trX_bd bxa bya | exact trY_bd bxa bya | exact Bd.neg (tmod4_bd _)) (by decide)) (by first | assumption | (unfold S; decide) | exact Bd.s (by first | assumption | exact trX_bd bxa bya | exact trY_bd bxa bya | exact Bd.neg (tmod4_bd _)) (by decide)) (by first | assumption | (unfold S; decide) | exact Bd.s (by first | assumption | exact trX_bd bxa bya | exact trY_bd bxa bya | exact Bd.neg (tmod4_bd _)) (by decide)) (by first | assumption | (unfold S; decide) | exact Bd.s (by first | assumption | exact trX_bd bxa bya | exact trY_bd bxa bya | exact Bd.neg (tmod4_bd _)) (by decide)) (by simp only [Ha.out, Bool.false_and, Bool.and_false])).mono ?_
      rintro e w3 ⟨v3, rfl, hv, hb⟩
      exact hK _ _ _ (hI.call hb) (Step.call hI hb) hv
    · intro vs g w2 hI hF hR K hK
      simp only [Facts, fill, Act.put, z1, z2, z3, z4, z5, Nat.reduceAdd] at hF hR hK ⊢
      obtain ⟨r2, -⟩ := hR
      generalize vs 2 = x2 at *
      subst r2
      go_simp
      exact hK _ _ _ hI (Step.refl hI) rfl
    · intro vs g w2 hI hF hR K hK
      simp only [Facts, fill, Act.put, z1, z2, z3, z4, z5, Nat.reduceAdd] at hF hR hK ⊢
      obtain ⟨r3, -⟩ := hR
      generalize vs 3 = x3 at *
      subst r3
      go_simp
      exact hK _ _ _ hI (Step.refl hI) rfl
    · intro vs g w2 hI hF hR K hK
      simp only [Facts, fill, Act.put, z1, z2, z3, z4, z5, Nat.reduceAdd] at hF hR hK ⊢
      obtain ⟨r3, -⟩ := hR
      generalize vs 3 = x3 at *
      subst r3
      go_simp
      exact hK _ _ _ hI (Step.refl hI) rfl
    · intro vs g w2 hI hF hR K hK
      simp only [Facts, fill, Act.put, z1, z2, z3, z4, z5, Nat.reduceAdd] at hF hR hK ⊢
      go_simp
      exact hK _ _ _ (hI.alloc _ (hF (by decide)) _) (Step.alloc hI (hF (by decide)) _) ⟨_, rfl, more_at _ _ _, box2' _ _ _ _⟩
    · intro vs g w2 hI hF hR K hK
      simp only [Facts, fill, Act.put, z1, z2, z3, z4, z5, Nat.reduceAdd] at hF hR hK ⊢
      obtain ⟨r6, r4, -⟩ := hR
      generalize vs 6 = x6, vs 4 = x4 at *
      subst r4
      obtain ⟨k, rfl, hk, hbx⟩ := r6
      obtain ⟨⟨u0, k0⟩, f0⟩ := hbx 0 (by decide)
      obtain ⟨⟨u1, k1⟩, f1⟩ := hbx 1 (by decide)
      go_simp
      have ht := (((Touch.refl w2 k).set 0 (.int .i64 0)).set 1 (.int .i64 0))
      exact hK undef _ _ (hI.store (by decide) hk ht) (Step.store hI rfl hk ht) ⟨k, .agg #[.int .i64 0, .int .i64 0], hk, by rw [ht.size]; exact hI.lt _ _ hk, cells2 k0 k1 (.int .i64 0) (.int .i64 0), rfl⟩
    · intro vs g w2 hI hF hR K hK
      simp only [Facts, fill, Act.put, z1, z2, z3, z4, z5, Nat.reduceAdd] at hF hR hK ⊢
      obtain ⟨r5, -⟩ := hR
      generalize vs 5 = x5 at *
      subst r5
      go_simp
      exact hK _ _ _ hI (Step.refl hI) rfl
  case fin =>
    intro vs g wR1 hI hR
    have r6 := hR 6 (by decide)
    have r7 := hR 7 (by decide)
    have r8 := hR 8 (by decide)
    simp only [fill, Act.put, z1, z2, z3, z4, z5] at r6 r7 r8 ⊢
    clear hR
    generalize vs 6 = x6 at *
    generalize vs 7 = x7 at *
    generalize vs 8 = x8 at *
    have Ca_R1_0 := Lib.hid (hI.cell Ca_W_0.out (fun _ h => by cases h))
    have Ca_R1_1 := Lib.hid (hI.cell Ca_W_1.out (fun _ h => by cases h))
    have Cb_R1_0 := Lib.hid (hI.cell Cb_W_0.out (fun _ h => by cases h))
    have Cb_R1_1 := Lib.hid (hI.cell Cb_W_1.out (fun _ h => by cases h))
    obtain ⟨pR15, rfl, hkR15, -⟩ := r6
    obtain ⟨qR15, uR15, hqR15, -, hcR15, hrR15⟩ := r7
    rw [hkR15] at hqR15
    injection hqR15 with hqR15
    subst hqR15
    subst hrR15
    have CR15_R1_0 := Lib.hid (hcR15 0 _ rfl)
    have CR15_R1_1 := Lib.hid (hcR15 1 _ rfl)
    clear hcR15 hkR15
    subst r8
    have hBR1 := hI.below
    have HCR1 := hI.next (Ctx.ok_none hb0)
    clear hI
    go_upto_region 2 with (fail)
    refine box_plan0 (c := ⟨w, wR1, (fun _ => none)⟩) HCR1 [[], [(17, 0)], [(18, 1)], [(16, 2)], [(16, 2)], [(19, 3)], [(20, 4)]] [(17, 0), (18, 1), (16, 2), (19, 3), (20, 4), (7, 5), (8, 6)] [
        (fun v _ _ => v = .agg #[.int .i64 xa, .int .i64 ya]),
        (fun v _ _ => v = .tuple #[.float .f64 0, .int .i64 3]),
        (fun v _ _ => v = .tuple #[.float .f64 0, .int .i64 3]),
        (fun v _ _ => v = .float .f64 0),
        (fun v _ _ => v = .int .i64 3),
        (fun v _ _ => v = .float .f64 0),
        (fun v _ _ => v = .int .i64 3)
      ] (fun _ => none) (by kernel_rfl) (by kernel_rfl) ⟨stab_eq, stab_eq, stab_eq, stab_eq, stab_eq, stab_eq, stab_eq, trivial⟩ ?steps ?fin
    case steps =>
      refine ⟨?_, ?_, ?_, ?_, ?_, ?_, ?_, trivial⟩
      · intro vs g w2 hI hF hR K hK
        simp only [Facts, fill, Act.put, z1, z2, z3, z4, z5, Nat.reduceAdd] at hF hR hK ⊢
        have k0 := hI.cell Ca_R1_0.out (fun _ h => by cases h)
        have k1 := hI.cell Ca_R1_1.out (fun _ h => by cases h)
        go_simp
        exact hK _ _ _ hI (Step.refl hI) rfl
      · intro vs g w2 hI hF hR K hK
        simp only [Facts, fill, Act.put, z1, z2, z3, z4, z5, Nat.reduceAdd] at hF hR hK ⊢
        obtain ⟨r0, -⟩ := hR
        generalize vs 0 = x0 at *
        subst r0
        go_simp
        refine (gPlNormNo hI (by first | assumption | (unfold S; decide) | exact Bd.s (by first | assumption | exact trX_bd bxa bya | exact trY_bd bxa bya | exact Bd.neg (tmod4_bd _)) (by decide)) (by first | assumption | (unfold S; decide) | exact Bd.s (by first | assumption | exact trX_bd bxa bya | exact trY_bd bxa bya | exact Bd.neg (tmod4_bd _)) (by decide)) (by simp only [Ha.out, Bool.false_and, Bool.and_false])).mono ?_
        rintro e w3 ⟨v3, rfl, hv, hb⟩
        exact hK _ _ _ (hI.call hb) (Step.call hI hb) hv
      · intro vs g w2 hI hF hR K hK
        simp only [Facts, fill, Act.put, z1, z2, z3, z4, z5, Nat.reduceAdd] at hF hR hK ⊢
        obtain ⟨r1, -⟩ := hR
        generalize vs 1 = x1 at *
        subst r1
        go_simp
        exact hK _ _ _ hI (Step.refl hI) rfl
      · intro vs g w2 hI hF hR K hK
        simp only [Facts, fill, Act.put, z1, z2, z3, z4, z5, Nat.reduceAdd] at hF hR hK ⊢
        obtain ⟨r2, -⟩ := hR
        generalize vs 2 = x2 at *
        subst r2
        go_simp
        exact hK _ _ _ hI (Step.refl hI) rfl
      · intro vs g w2 hI hF hR K hK
        simp only [Facts, fill, Act.put, z1, z2, z3, z4, z5, Nat.reduceAdd] at hF hR hK ⊢
        obtain ⟨r2, -⟩ := hR
        generalize vs 2 = x2 at *
        subst r2
        go_simp
        exact hK _ _ _ hI (Step.refl hI) rfl
      · intro vs g w2 hI hF hR K hK
        simp only [Facts, fill, Act.put, z1, z2, z3, z4, z5, Nat.reduceAdd] at hF hR hK ⊢
        obtain ⟨r3, -⟩ := hR
        generalize vs 3 = x3 at *
        subst r3
        go_simp
        exact hK _ _ _ hI (Step.refl hI) rfl
      · intro vs g w2 hI hF hR K hK
        simp only [Facts, fill, Act.put, z1, z2, z3, z4, z5, Nat.reduceAdd] at hF hR hK ⊢
        obtain ⟨r4, -⟩ := hR
        generalize vs 4 = x4 at *
        subst r4
        go_simp
        exact hK _ _ _ hI (Step.refl hI) rfl
    case fin =>
      intro vs g wR2 hI hR
      have r5 := hR 5 (by decide)
      have r6 := hR 6 (by decide)
      simp only [fill, Act.put, z1, z2, z3, z4, z5] at r5 r6 ⊢
      clear hR
      generalize vs 5 = x5 at *
      generalize vs 6 = x6 at *
      have Ca_R2_0 := Lib.hid (hI.cell Ca_R1_0.out (fun _ h => by cases h))
      have Ca_R2_1 := Lib.hid (hI.cell Ca_R1_1.out (fun _ h => by cases h))
      have Cb_R2_0 := Lib.hid (hI.cell Cb_R1_0.out (fun _ h => by cases h))
      have Cb_R2_1 := Lib.hid (hI.cell Cb_R1_1.out (fun _ h => by cases h))
      have CR15_R2_0 := Lib.hid (hI.cell CR15_R1_0.out (fun _ h => by cases h))
      have CR15_R2_1 := Lib.hid (hI.cell CR15_R1_1.out (fun _ h => by cases h))
      subst r5
      subst r6
      have hBR2 := hI.below
      have HCR2 := hI.next HCR1
      clear hI
      go_upto_region 3 with (fail)
      refine box_plan0 (c := ⟨w, wR2, (fun _ => none)⟩) HCR2 [[], [(21, 0)], [(22, 1)]] [(21, 0), (22, 1), (9, 2)] [
          (fun v _ _ => v = .agg #[.int .i64 xa, .int .i64 ya]),
          (fun v _ _ => v = .bool false),
          (fun v _ _ => v = .bool false)
        ] (fun _ => none) (by kernel_rfl) (by kernel_rfl) ⟨stab_eq, stab_eq, stab_eq, trivial⟩ ?steps ?fin
      case steps =>
        refine ⟨?_, ?_, ?_, trivial⟩
        · intro vs g w2 hI hF hR K hK
          simp only [Facts, fill, Act.put, z1, z2, z3, z4, z5, Nat.reduceAdd] at hF hR hK ⊢
          have k0 := hI.cell Ca_R2_0.out (fun _ h => by cases h)
          have k1 := hI.cell Ca_R2_1.out (fun _ h => by cases h)
          go_simp
          exact hK _ _ _ hI (Step.refl hI) rfl
        · intro vs g w2 hI hF hR K hK
          simp only [Facts, fill, Act.put, z1, z2, z3, z4, z5, Nat.reduceAdd] at hF hR hK ⊢
          obtain ⟨r0, -⟩ := hR
          generalize vs 0 = x0 at *
          subst r0
          go_simp
          refine (gRef9Small hI Ha.out).mono ?_
          rintro e w3 ⟨v3, rfl, hv, hb⟩
          exact hK _ _ _ (hI.call hb) (Step.call hI hb) hv
        · intro vs g w2 hI hF hR K hK
          simp only [Facts, fill, Act.put, z1, z2, z3, z4, z5, Nat.reduceAdd] at hF hR hK ⊢
          obtain ⟨r1, -⟩ := hR
          generalize vs 1 = x1 at *
          subst r1
          go_simp
          exact hK _ _ _ hI (Step.refl hI) rfl
      case fin =>
        intro vs g wR3 hI hR
        have r2 := hR 2 (by decide)
        simp only [fill, Act.put, z1, z2, z3, z4, z5] at r2 ⊢
        clear hR
        generalize vs 2 = x2 at *
        have Ca_R3_0 := Lib.hid (hI.cell Ca_R2_0.out (fun _ h => by cases h))
        have Ca_R3_1 := Lib.hid (hI.cell Ca_R2_1.out (fun _ h => by cases h))
        have Cb_R3_0 := Lib.hid (hI.cell Cb_R2_0.out (fun _ h => by cases h))
        have Cb_R3_1 := Lib.hid (hI.cell Cb_R2_1.out (fun _ h => by cases h))
        have CR15_R3_0 := Lib.hid (hI.cell CR15_R2_0.out (fun _ h => by cases h))
        have CR15_R3_1 := Lib.hid (hI.cell CR15_R2_1.out (fun _ h => by cases h))
        subst r2
        have hBR3 := hI.below
        have HCR3 := hI.next HCR2
        clear hI
        go_upto_region 4 with (fail)
        refine box_plan0 (c := ⟨w, wR3, (fun _ => none)⟩) HCR3 [[], [], [(24, 1)], [(23, 0), (25, 2)]] [(23, 0), (24, 1), (25, 2), (26, 3)] [
            (fun v _ _ => v = .bool false),
            (fun v _ _ => v = .agg #[.int .i64 xa, .int .i64 ya]),
            (fun v _ _ => v = .bool false),
            (fun v _ _ => v = .bool false)
          ] (fun _ => none) (by kernel_rfl) (by kernel_rfl) ⟨stab_eq, stab_eq, stab_eq, stab_eq, trivial⟩ ?steps ?fin
        case steps =>
          refine ⟨?_, ?_, ?_, ?_, trivial⟩
          · intro vs g w2 hI hF hR K hK
            simp only [Facts, fill, Act.put, z1, z2, z3, z4, z5, Nat.reduceAdd] at hF hR hK ⊢
            go_simp
            exact hK _ _ _ hI (Step.refl hI) rfl
          · intro vs g w2 hI hF hR K hK
            simp only [Facts, fill, Act.put, z1, z2, z3, z4, z5, Nat.reduceAdd] at hF hR hK ⊢
            have k0 := hI.cell Ca_R3_0.out (fun _ h => by cases h)
            have k1 := hI.cell Ca_R3_1.out (fun _ h => by cases h)
            go_simp
            exact hK _ _ _ hI (Step.refl hI) rfl
          · intro vs g w2 hI hF hR K hK
            simp only [Facts, fill, Act.put, z1, z2, z3, z4, z5, Nat.reduceAdd] at hF hR hK ⊢
            obtain ⟨r1, -⟩ := hR
            generalize vs 1 = x1 at *
            subst r1
            go_simp
            refine (gPlSmall hI (by first | assumption | (unfold S; decide) | exact Bd.s (by first | assumption | exact trX_bd bxa bya | exact trY_bd bxa bya | exact Bd.neg (tmod4_bd _)) (by decide)) (by first | assumption | (unfold S; decide) | exact Bd.s (by first | assumption | exact trX_bd bxa bya | exact trY_bd bxa bya | exact Bd.neg (tmod4_bd _)) (by decide)) Ha.out).mono ?_
            rintro e w3 ⟨v3, rfl, hv, hb⟩
            exact hK _ _ _ (hI.call hb) (Step.call hI hb) hv
          · intro vs g w2 hI hF hR K hK
            simp only [Facts, fill, Act.put, z1, z2, z3, z4, z5, Nat.reduceAdd] at hF hR hK ⊢
            obtain ⟨r0, r2, -⟩ := hR
            generalize vs 0 = x0, vs 2 = x2 at *
            subst r0 r2
            go_simp
            exact hK _ _ _ hI (Step.refl hI) rfl
        case fin =>
          intro vs g wR4 hI hR
          have r3 := hR 3 (by decide)
          simp only [fill, Act.put, z1, z2, z3, z4, z5] at r3 ⊢
          clear hR
          generalize vs 3 = x3 at *
          have Ca_R4_0 := Lib.hid (hI.cell Ca_R3_0.out (fun _ h => by cases h))
          have Ca_R4_1 := Lib.hid (hI.cell Ca_R3_1.out (fun _ h => by cases h))
          have Cb_R4_0 := Lib.hid (hI.cell Cb_R3_0.out (fun _ h => by cases h))
          have Cb_R4_1 := Lib.hid (hI.cell Cb_R3_1.out (fun _ h => by cases h))
          have CR15_R4_0 := Lib.hid (hI.cell CR15_R3_0.out (fun _ h => by cases h))
          have CR15_R4_1 := Lib.hid (hI.cell CR15_R3_1.out (fun _ h => by cases h))
          subst r3
          have hBR4 := hI.below
          have HCR4 := hI.next HCR3
          clear hI
          go_upto_region 6 with (fail)
          refine box_plan0 (c := ⟨w, wR4, (fun _ => none)⟩) HCR4 [[], [(27, 0)], [(28, 1)], [(29, 2)], [(29, 2), (30, 3)], [(29, 2), (31, 4)], [(32, 5)], [(32, 5), (33, 6)], [(29, 2), (32, 5), (34, 7)], [(29, 2), (35, 8)], [(36, 9)], [(37, 10)], [(37, 10), (38, 11)], [(39, 12)], [(39, 12), (40, 13)], [(39, 12), (41, 14)], [(42, 15)], [(42, 15)], [(42, 15), (44, 17)], [(42, 15), (45, 18)], [(42, 15), (43, 16), (46, 19)], [(39, 12), (42, 15), (47, 20)], [(37, 10), (39, 12), (48, 21)], [(37, 10), (49, 22)]] [(27, 0), (28, 1), (29, 2), (30, 3), (31, 4), (32, 5), (33, 6), (34, 7), (35, 8), (36, 9), (37, 10), (38, 11), (39, 12), (40, 13), (41, 14), (42, 15), (43, 16), (44, 17), (45, 18), (46, 19), (47, 20), (48, 21), (49, 22), (50, 23)] [
              (fun v _ _ => v = .bool false),
              (fun v _ _ => v = .bool true),
              (fun v _ _ => v = .bool true),
              (fun v _ _ => v = .int .i64 3),
              (fun v _ _ => v = .bool false),
              (fun v _ _ => v = .bool false),
              (fun v _ _ => v = .float .f64 0),
              (fun v _ _ => v = .bool false),
              (fun v _ _ => v = .bool false),
              (fun v _ _ => v = .bool false),
              (fun v _ _ => v = .bool false),
              (fun v _ _ => v = .bool false),
              (fun v _ _ => v = .bool false),
              (fun v _ _ => v = undef),
              (fun v _ _ => v = undef),
              (fun v _ _ => v = undef),
              (fun v _ _ => v = undef),
              (fun v _ _ => v = undef),
              (fun v _ _ => v = undef),
              (fun v _ _ => v = undef),
              (fun v _ _ => v = undef),
              (fun v _ _ => v = undef),
              (fun v _ _ => v = .bool false),
              (fun v _ _ => v = .bool false)
            ] (fun _ => none) (by kernel_rfl) (by kernel_rfl) ⟨stab_eq, stab_eq, stab_eq, stab_eq, stab_eq, stab_eq, stab_eq, stab_eq, stab_eq, stab_eq, stab_eq, stab_eq, stab_eq, stab_eq, stab_eq, stab_eq, stab_eq, stab_eq, stab_eq, stab_eq, stab_eq, stab_eq, stab_eq, stab_eq, trivial⟩ ?steps ?fin
          case steps =>
            refine ⟨?_, ?_, ?_, ?_, ?_, ?_, ?_, ?_, ?_, ?_, ?_, ?_, ?_, ?_, ?_, ?_, ?_, ?_, ?_, ?_, ?_, ?_, ?_, ?_, trivial⟩
            · intro vs g w2 hI hF hR K hK
              simp only [Facts, fill, Act.put, z1, z2, z3, z4, z5, Nat.reduceAdd] at hF hR hK ⊢
              go_simp
              exact hK _ _ _ hI (Step.refl hI) rfl
            · intro vs g w2 hI hF hR K hK
              simp only [Facts, fill, Act.put, z1, z2, z3, z4, z5, Nat.reduceAdd] at hF hR hK ⊢
              obtain ⟨r0, -⟩ := hR
              generalize vs 0 = x0 at *
              subst r0
              go_simp
              exact hK _ _ _ hI (Step.refl hI) rfl
            · intro vs g w2 hI hF hR K hK
              simp only [Facts, fill, Act.put, z1, z2, z3, z4, z5, Nat.reduceAdd] at hF hR hK ⊢
              obtain ⟨r1, -⟩ := hR
              generalize vs 1 = x1 at *
              subst r1
              go_simp
              exact hK _ _ _ hI (Step.refl hI) rfl
            · intro vs g w2 hI hF hR K hK
              simp only [Facts, fill, Act.put, z1, z2, z3, z4, z5, Nat.reduceAdd] at hF hR hK ⊢
              obtain ⟨r2, -⟩ := hR
              generalize vs 2 = x2 at *
              subst r2
              go_simp
              exact hK _ _ _ hI (Step.refl hI) rfl
            · intro vs g w2 hI hF hR K hK
              simp only [Facts, fill, Act.put, z1, z2, z3, z4, z5, Nat.reduceAdd] at hF hR hK ⊢
              obtain ⟨r2, r3, -⟩ := hR
              generalize vs 2 = x2, vs 3 = x3 at *
              subst r2 r3
              go_simp
              exact hK _ _ _ hI (Step.refl hI) rfl
            · intro vs g w2 hI hF hR K hK
              simp only [Facts, fill, Act.put, z1, z2, z3, z4, z5, Nat.reduceAdd] at hF hR hK ⊢
              obtain ⟨r2, r4, -⟩ := hR
              generalize vs 2 = x2, vs 4 = x4 at *
              subst r2 r4
              go_simp
              exact hK _ _ _ hI (Step.refl hI) rfl
            · intro vs g w2 hI hF hR K hK
              simp only [Facts, fill, Act.put, z1, z2, z3, z4, z5, Nat.reduceAdd] at hF hR hK ⊢
              obtain ⟨r5, -⟩ := hR
              generalize vs 5 = x5 at *
              subst r5
              go_simp
              exact hK _ _ _ hI (Step.refl hI) rfl
            · intro vs g w2 hI hF hR K hK
              simp only [Facts, fill, Act.put, z1, z2, z3, z4, z5, Nat.reduceAdd] at hF hR hK ⊢
              obtain ⟨r5, r6, -⟩ := hR
              generalize vs 5 = x5, vs 6 = x6 at *
              subst r5 r6
              have hz := fl_eq fi_0 fi_0 rfl
              go_simp
              exact hK _ _ _ hI (Step.refl hI) rfl
            · intro vs g w2 hI hF hR K hK
              simp only [Facts, fill, Act.put, z1, z2, z3, z4, z5, Nat.reduceAdd] at hF hR hK ⊢
              obtain ⟨r2, r5, r7, -⟩ := hR
              generalize vs 2 = x2, vs 5 = x5, vs 7 = x7 at *
              subst r2 r5 r7
              go_simp
              exact hK _ _ _ hI (Step.refl hI) rfl
            · intro vs g w2 hI hF hR K hK
              simp only [Facts, fill, Act.put, z1, z2, z3, z4, z5, Nat.reduceAdd] at hF hR hK ⊢
              obtain ⟨r2, r8, -⟩ := hR
              generalize vs 2 = x2, vs 8 = x8 at *
              subst r2 r8
              go_simp
              exact hK _ _ _ hI (Step.refl hI) rfl
            · intro vs g w2 hI hF hR K hK
              simp only [Facts, fill, Act.put, z1, z2, z3, z4, z5, Nat.reduceAdd] at hF hR hK ⊢
              obtain ⟨r9, -⟩ := hR
              generalize vs 9 = x9 at *
              subst r9
              go_simp
              exact hK _ _ _ hI (Step.refl hI) rfl
            · intro vs g w2 hI hF hR K hK
              simp only [Facts, fill, Act.put, z1, z2, z3, z4, z5, Nat.reduceAdd] at hF hR hK ⊢
              obtain ⟨r10, -⟩ := hR
              generalize vs 10 = x10 at *
              subst r10
              go_simp
              exact hK _ _ _ hI (Step.refl hI) rfl
            · intro vs g w2 hI hF hR K hK
              simp only [Facts, fill, Act.put, z1, z2, z3, z4, z5, Nat.reduceAdd] at hF hR hK ⊢
              obtain ⟨r10, r11, -⟩ := hR
              generalize vs 10 = x10, vs 11 = x11 at *
              subst r10 r11
              go_simp
              exact hK _ _ _ hI (Step.refl hI) rfl
            · intro vs g w2 hI hF hR K hK
              simp only [Facts, fill, Act.put, z1, z2, z3, z4, z5, Nat.reduceAdd] at hF hR hK ⊢
              obtain ⟨r12, -⟩ := hR
              generalize vs 12 = x12 at *
              subst r12
              go_simp
              exact hK _ _ _ hI (Step.refl hI) rfl
            · intro vs g w2 hI hF hR K hK
              simp only [Facts, fill, Act.put, z1, z2, z3, z4, z5, Nat.reduceAdd] at hF hR hK ⊢
              obtain ⟨r12, r13, -⟩ := hR
              generalize vs 12 = x12, vs 13 = x13 at *
              subst r12 r13
              go_simp
              exact hK _ _ _ hI (Step.refl hI) rfl
            · intro vs g w2 hI hF hR K hK
              simp only [Facts, fill, Act.put, z1, z2, z3, z4, z5, Nat.reduceAdd] at hF hR hK ⊢
              obtain ⟨r12, r14, -⟩ := hR
              generalize vs 12 = x12, vs 14 = x14 at *
              subst r12 r14
              go_simp
              exact hK _ _ _ hI (Step.refl hI) rfl
            · intro vs g w2 hI hF hR K hK
              simp only [Facts, fill, Act.put, z1, z2, z3, z4, z5, Nat.reduceAdd] at hF hR hK ⊢
              obtain ⟨r15, -⟩ := hR
              generalize vs 15 = x15 at *
              subst r15
              go_simp
              exact hK _ _ _ hI (Step.refl hI) rfl
            · intro vs g w2 hI hF hR K hK
              simp only [Facts, fill, Act.put, z1, z2, z3, z4, z5, Nat.reduceAdd] at hF hR hK ⊢
              obtain ⟨r15, -⟩ := hR
              generalize vs 15 = x15 at *
              subst r15
              go_simp
              exact hK _ _ _ hI (Step.refl hI) rfl
            · intro vs g w2 hI hF hR K hK
              simp only [Facts, fill, Act.put, z1, z2, z3, z4, z5, Nat.reduceAdd] at hF hR hK ⊢
              obtain ⟨r15, r17, -⟩ := hR
              generalize vs 15 = x15, vs 17 = x17 at *
              subst r15 r17
              go_simp
              exact hK _ _ _ hI (Step.refl hI) rfl
            · intro vs g w2 hI hF hR K hK
              simp only [Facts, fill, Act.put, z1, z2, z3, z4, z5, Nat.reduceAdd] at hF hR hK ⊢
              obtain ⟨r15, r18, -⟩ := hR
              generalize vs 15 = x15, vs 18 = x18 at *
              subst r15 r18
              go_simp
              exact hK _ _ _ hI (Step.refl hI) rfl
            · intro vs g w2 hI hF hR K hK
              simp only [Facts, fill, Act.put, z1, z2, z3, z4, z5, Nat.reduceAdd] at hF hR hK ⊢
              obtain ⟨r15, r16, r19, -⟩ := hR
              generalize vs 15 = x15, vs 16 = x16, vs 19 = x19 at *
              subst r15 r16 r19
              go_simp
              exact hK _ _ _ hI (Step.refl hI) rfl
            · intro vs g w2 hI hF hR K hK
              simp only [Facts, fill, Act.put, z1, z2, z3, z4, z5, Nat.reduceAdd] at hF hR hK ⊢
              obtain ⟨r12, r15, r20, -⟩ := hR
              generalize vs 12 = x12, vs 15 = x15, vs 20 = x20 at *
              subst r12 r15 r20
              go_simp
              exact hK _ _ _ hI (Step.refl hI) rfl
            · intro vs g w2 hI hF hR K hK
              simp only [Facts, fill, Act.put, z1, z2, z3, z4, z5, Nat.reduceAdd] at hF hR hK ⊢
              obtain ⟨r10, r12, r21, -⟩ := hR
              generalize vs 10 = x10, vs 12 = x12, vs 21 = x21 at *
              subst r10 r12 r21
              go_simp
              exact hK _ _ _ hI (Step.refl hI) rfl
            · intro vs g w2 hI hF hR K hK
              simp only [Facts, fill, Act.put, z1, z2, z3, z4, z5, Nat.reduceAdd] at hF hR hK ⊢
              obtain ⟨r10, r22, -⟩ := hR
              generalize vs 10 = x10, vs 22 = x22 at *
              subst r10 r22
              go_simp
              exact hK _ _ _ hI (Step.refl hI) rfl
          case fin =>
            intro vs g wR6 hI hR
            have r23 := hR 23 (by decide)
            simp only [fill, Act.put, z1, z2, z3, z4, z5] at r23 ⊢
            clear hR
            generalize vs 23 = x23 at *
            have Ca_R6_0 := Lib.hid (hI.cell Ca_R4_0.out (fun _ h => by cases h))
            have Ca_R6_1 := Lib.hid (hI.cell Ca_R4_1.out (fun _ h => by cases h))
            have Cb_R6_0 := Lib.hid (hI.cell Cb_R4_0.out (fun _ h => by cases h))
            have Cb_R6_1 := Lib.hid (hI.cell Cb_R4_1.out (fun _ h => by cases h))
            have CR15_R6_0 := Lib.hid (hI.cell CR15_R4_0.out (fun _ h => by cases h))
            have CR15_R6_1 := Lib.hid (hI.cell CR15_R4_1.out (fun _ h => by cases h))
            subst r23
            have hBR6 := hI.below
            have HCR6 := hI.next HCR4
            clear hI
            go_upto_region 8 with (fail)
            refine box_plan0 (c := ⟨w, wR6, (fun _ => none)⟩) HCR6 [[], [(51, 0)], [(52, 1)], [(53, 2)], [(53, 2), (54, 3)], [(53, 2), (55, 4)], [(53, 2), (56, 5)]] [(51, 0), (52, 1), (53, 2), (54, 3), (55, 4), (56, 5), (57, 6)] [
                (fun v _ _ => v = .bool false),
                (fun v _ _ => v = .bool true),
                (fun v _ _ => v = .bool true),
                (fun v _ _ => v = undef),
                (fun v _ _ => v = undef),
                (fun v _ _ => v = undef),
                (fun v _ _ => v = .bool true)
              ] (fun _ => none) (by kernel_rfl) (by kernel_rfl) ⟨stab_eq, stab_eq, stab_eq, stab_eq, stab_eq, stab_eq, stab_eq, trivial⟩ ?steps ?fin
            case steps =>
              refine ⟨?_, ?_, ?_, ?_, ?_, ?_, ?_, trivial⟩
              · intro vs g w2 hI hF hR K hK
                simp only [Facts, fill, Act.put, z1, z2, z3, z4, z5, Nat.reduceAdd] at hF hR hK ⊢
                go_simp
                exact hK _ _ _ hI (Step.refl hI) rfl
              · intro vs g w2 hI hF hR K hK
                simp only [Facts, fill, Act.put, z1, z2, z3, z4, z5, Nat.reduceAdd] at hF hR hK ⊢
                obtain ⟨r0, -⟩ := hR
                generalize vs 0 = x0 at *
                subst r0
                go_simp
                exact hK _ _ _ hI (Step.refl hI) rfl
              · intro vs g w2 hI hF hR K hK
                simp only [Facts, fill, Act.put, z1, z2, z3, z4, z5, Nat.reduceAdd] at hF hR hK ⊢
                obtain ⟨r1, -⟩ := hR
                generalize vs 1 = x1 at *
                subst r1
                go_simp
                exact hK _ _ _ hI (Step.refl hI) rfl
              · intro vs g w2 hI hF hR K hK
                simp only [Facts, fill, Act.put, z1, z2, z3, z4, z5, Nat.reduceAdd] at hF hR hK ⊢
                obtain ⟨r2, -⟩ := hR
                generalize vs 2 = x2 at *
                subst r2
                go_simp
                exact hK _ _ _ hI (Step.refl hI) rfl
              · intro vs g w2 hI hF hR K hK
                simp only [Facts, fill, Act.put, z1, z2, z3, z4, z5, Nat.reduceAdd] at hF hR hK ⊢
                obtain ⟨r2, r3, -⟩ := hR
                generalize vs 2 = x2, vs 3 = x3 at *
                subst r2 r3
                go_simp
                exact hK _ _ _ hI (Step.refl hI) rfl
              · intro vs g w2 hI hF hR K hK
                simp only [Facts, fill, Act.put, z1, z2, z3, z4, z5, Nat.reduceAdd] at hF hR hK ⊢
                obtain ⟨r2, r4, -⟩ := hR
                generalize vs 2 = x2, vs 4 = x4 at *
                subst r2 r4
                go_simp
                exact hK _ _ _ hI (Step.refl hI) rfl
              · intro vs g w2 hI hF hR K hK
                simp only [Facts, fill, Act.put, z1, z2, z3, z4, z5, Nat.reduceAdd] at hF hR hK ⊢
                obtain ⟨r2, r5, -⟩ := hR
                generalize vs 2 = x2, vs 5 = x5 at *
                subst r2 r5
                go_simp
                exact hK _ _ _ hI (Step.refl hI) rfl
            case fin =>
              intro vs g wR8 hI hR
              have r6 := hR 6 (by decide)
              simp only [fill, Act.put, z1, z2, z3, z4, z5] at r6 ⊢
              clear hR
              generalize vs 6 = x6 at *
              have Ca_R8_0 := Lib.hid (hI.cell Ca_R6_0.out (fun _ h => by cases h))
              have Ca_R8_1 := Lib.hid (hI.cell Ca_R6_1.out (fun _ h => by cases h))
              have Cb_R8_0 := Lib.hid (hI.cell Cb_R6_0.out (fun _ h => by cases h))
              have Cb_R8_1 := Lib.hid (hI.cell Cb_R6_1.out (fun _ h => by cases h))
              have CR15_R8_0 := Lib.hid (hI.cell CR15_R6_0.out (fun _ h => by cases h))
              have CR15_R8_1 := Lib.hid (hI.cell CR15_R6_1.out (fun _ h => by cases h))
              subst r6
              have hBR8 := hI.below
              have HCR8 := hI.next HCR6
              clear hI
              go_upto_region 9 with (fail)
              refine box_plan0 (c := ⟨w, wR8, (fun _ => none)⟩) HCR8 [[], [(58, 0)], [(59, 1)], [(59, 1), (60, 2)], [(59, 1), (61, 3)], [(62, 4)], [(63, 5)], [(63, 5)], [(63, 5), (64, 6), (65, 7)], [(63, 5), (66, 8)], [(67, 9)]] [(58, 0), (59, 1), (60, 2), (61, 3), (62, 4), (63, 5), (64, 6), (65, 7), (66, 8), (67, 9), (4, 10)] [
                  (fun v _ _ => v = .bool true),
                  (fun v _ _ => v = .bool true),
                  (fun v _ _ => v = .int .i64 3),
                  (fun v _ _ => v = .bool true),
                  (fun v _ _ => v = .bool true),
                  (fun v _ _ => v = .bool true),
                  (fun v _ _ => v = .agg #[.int .i64 0, .int .i64 0]),
                  (fun v _ _ => v = .agg #[.int .i64 0, .int .i64 0]),
                  (fun v _ _ => v = .bool true),
                  (fun v _ _ => v = .bool true),
                  (fun v _ _ => v = .bool true)
                ] (fun _ => none) (by kernel_rfl) (by kernel_rfl) ⟨stab_eq, stab_eq, stab_eq, stab_eq, stab_eq, stab_eq, stab_eq, stab_eq, stab_eq, stab_eq, stab_eq, trivial⟩ ?steps ?fin
              case steps =>
                refine ⟨?_, ?_, ?_, ?_, ?_, ?_, ?_, ?_, ?_, ?_, ?_, trivial⟩
                · intro vs g w2 hI hF hR K hK
                  simp only [Facts, fill, Act.put, z1, z2, z3, z4, z5, Nat.reduceAdd] at hF hR hK ⊢
                  go_simp
                  refine (gAlive9 hI).mono ?_
                  rintro e w3 ⟨v3, rfl, hv, hb⟩
                  exact hK _ _ _ (hI.call hb) (Step.call hI hb) hv
                · intro vs g w2 hI hF hR K hK
                  simp only [Facts, fill, Act.put, z1, z2, z3, z4, z5, Nat.reduceAdd] at hF hR hK ⊢
                  obtain ⟨r0, -⟩ := hR
                  generalize vs 0 = x0 at *
                  subst r0
                  go_simp
                  exact hK _ _ _ hI (Step.refl hI) rfl
                · intro vs g w2 hI hF hR K hK
                  simp only [Facts, fill, Act.put, z1, z2, z3, z4, z5, Nat.reduceAdd] at hF hR hK ⊢
                  obtain ⟨r1, -⟩ := hR
                  generalize vs 1 = x1 at *
                  subst r1
                  go_simp
                  exact hK _ _ _ hI (Step.refl hI) rfl
                · intro vs g w2 hI hF hR K hK
                  simp only [Facts, fill, Act.put, z1, z2, z3, z4, z5, Nat.reduceAdd] at hF hR hK ⊢
                  obtain ⟨r1, r2, -⟩ := hR
                  generalize vs 1 = x1, vs 2 = x2 at *
                  subst r1 r2
                  go_simp
                  exact hK _ _ _ hI (Step.refl hI) rfl
                · intro vs g w2 hI hF hR K hK
                  simp only [Facts, fill, Act.put, z1, z2, z3, z4, z5, Nat.reduceAdd] at hF hR hK ⊢
                  obtain ⟨r1, r3, -⟩ := hR
                  generalize vs 1 = x1, vs 3 = x3 at *
                  subst r1 r3
                  go_simp
                  exact hK _ _ _ hI (Step.refl hI) rfl
                · intro vs g w2 hI hF hR K hK
                  simp only [Facts, fill, Act.put, z1, z2, z3, z4, z5, Nat.reduceAdd] at hF hR hK ⊢
                  obtain ⟨r4, -⟩ := hR
                  generalize vs 4 = x4 at *
                  subst r4
                  go_simp
                  exact hK _ _ _ hI (Step.refl hI) rfl
                · intro vs g w2 hI hF hR K hK
                  simp only [Facts, fill, Act.put, z1, z2, z3, z4, z5, Nat.reduceAdd] at hF hR hK ⊢
                  obtain ⟨r5, -⟩ := hR
                  generalize vs 5 = x5 at *
                  subst r5
                  have k0 := hI.cell CR15_R8_0.out (fun _ h => by cases h)
                  have k1 := hI.cell CR15_R8_1.out (fun _ h => by cases h)
                  go_simp
                  exact hK _ _ _ hI (Step.refl hI) rfl
                · intro vs g w2 hI hF hR K hK
                  simp only [Facts, fill, Act.put, z1, z2, z3, z4, z5, Nat.reduceAdd] at hF hR hK ⊢
                  obtain ⟨r5, -⟩ := hR
                  generalize vs 5 = x5 at *
                  subst r5
                  go_simp
                  exact hK _ _ _ hI (Step.refl hI) rfl
                · intro vs g w2 hI hF hR K hK
                  simp only [Facts, fill, Act.put, z1, z2, z3, z4, z5, Nat.reduceAdd] at hF hR hK ⊢
                  obtain ⟨r5, r6, r7, -⟩ := hR
                  generalize vs 5 = x5, vs 6 = x6, vs 7 = x7 at *
                  subst r5 r6 r7
                  have hz0 : (0 == 0) = true := beq_self_eq_true _
                  have hz1 : (0 == 0) = true := beq_self_eq_true _
                  go_simp
                  exact hK _ _ _ hI (Step.refl hI) rfl
                · intro vs g w2 hI hF hR K hK
                  simp only [Facts, fill, Act.put, z1, z2, z3, z4, z5, Nat.reduceAdd] at hF hR hK ⊢
                  obtain ⟨r5, r8, -⟩ := hR
                  generalize vs 5 = x5, vs 8 = x8 at *
                  subst r5 r8
                  go_simp
                  exact hK _ _ _ hI (Step.refl hI) rfl
                · intro vs g w2 hI hF hR K hK
                  simp only [Facts, fill, Act.put, z1, z2, z3, z4, z5, Nat.reduceAdd] at hF hR hK ⊢
                  obtain ⟨r9, -⟩ := hR
                  generalize vs 9 = x9 at *
                  subst r9
                  go_simp
                  exact hK _ _ _ hI (Step.refl hI) rfl
              case fin =>
                intro vs g wR9 hI hR
                have r10 := hR 10 (by decide)
                simp only [fill, Act.put, z1, z2, z3, z4, z5] at r10 ⊢
                clear hR
                generalize vs 10 = x10 at *
                have Ca_R9_0 := Lib.hid (hI.cell Ca_R8_0.out (fun _ h => by cases h))
                have Ca_R9_1 := Lib.hid (hI.cell Ca_R8_1.out (fun _ h => by cases h))
                have Cb_R9_0 := Lib.hid (hI.cell Cb_R8_0.out (fun _ h => by cases h))
                have Cb_R9_1 := Lib.hid (hI.cell Cb_R8_1.out (fun _ h => by cases h))
                have CR15_R9_0 := Lib.hid (hI.cell CR15_R8_0.out (fun _ h => by cases h))
                have CR15_R9_1 := Lib.hid (hI.cell CR15_R8_1.out (fun _ h => by cases h))
                subst r10
                have hBR9 := hI.below
                have HCR9 := hI.next HCR8
                clear hI
                go_wp2
                go_ret
                exact ⟨rfl, hBR9⟩
set_option maxRecDepth 100000 in
set_option maxHeartbeats 4000000 in
theorem law9M_TF (xa ya xb yb : Int) (sxa : S xa) (sya : S ya) (sxb : S xb) (syb : S yb) (w : World) (ha : smallB xa ya = true) (hb : smallB xb yb = false) :
    Calls Try.prog 4 #[.agg #[.int .i64 xa, .int .i64 ya], .agg #[.int .i64 xb, .int .i64 yb]] w fun e w' => e = .returned (.bool true) ∧ Below w.heap.size w w' := by
  have Ha := Lib.hid ha
  obtain ⟨bxa, bya⟩ := small_bd ha
  clear ha
  have Hb := Lib.hid hb
  clear hb
  obtain ⟨W, hW⟩ : ∃ W, W = (w.alloc (.cells #[.int .i64 xa, .int .i64 ya] 23)).alloc (.cells #[.int .i64 xb, .int .i64 yb] 23) := ⟨_, rfl⟩
  have hb0 : Below w.heap.size w W := by rw [hW]; exact (((Below.refl _ _).alloc (Nat.le_refl _) _).alloc (by simp) _)
  have Ca_W_0 := Lib.hid (show W.cell? ⟨w.heap.size, 0, none⟩ = some (.int .i64 xa) by rw [hW]; simp [go_sem])
  have Ca_W_1 := Lib.hid (show W.cell? ⟨w.heap.size, 1, none⟩ = some (.int .i64 ya) by rw [hW]; simp [go_sem])
  have Cb_W_0 := Lib.hid (show W.cell? ⟨w.heap.size + 1, 0, none⟩ = some (.int .i64 xb) by rw [hW]; simp [go_sem])
  have Cb_W_1 := Lib.hid (show W.cell? ⟨w.heap.size + 1, 1, none⟩ = some (.int .i64 yb) by rw [hW]; simp [go_sem])
  have HW := Lib.hid hW
  clear hW
  go_enter Try.func4, Try.ntmps4
  go_upto_region 1 with (fail)
  rw [← HW.out]
  refine box_plan0 (c := ⟨w, W, (fun _ => none)⟩) (Ctx.ok_none hb0) [[], [], [(11, 0), (12, 1)], [(13, 2)], [(10, 3)], [(10, 3)], [], [(5, 6), (14, 4)], [(15, 5)]] [(11, 0), (12, 1), (13, 2), (10, 3), (14, 4), (15, 5), (5, 6), (6, 8)] [
      (fun v _ _ => v = .agg #[.int .i64 xa, .int .i64 ya]),
      (fun v _ _ => v = .agg #[.int .i64 xb, .int .i64 yb]),
      (fun v _ _ => v = .tuple #[.agg #[.int .i64 0, .int .i64 0], .int .i64 3]),
      (fun v _ _ => v = .tuple #[.agg #[.int .i64 0, .int .i64 0], .int .i64 3]),
      (fun v _ _ => v = .agg #[.int .i64 0, .int .i64 0]),
      (fun v _ _ => v = .int .i64 3),
      PtrR 6 2,
      (fun _ g w => BoxR 6 (fun v _ _ => v = .agg #[.int .i64 0, .int .i64 0]) g w),
      (fun v _ _ => v = .int .i64 3)
    ] (fun i => match i with | 6 => some 7 | _ => none) (by kernel_rfl) (by kernel_rfl) ⟨stab_eq, stab_eq, stab_eq, stab_eq, stab_eq, stab_eq, stab_ptr, stab_box (firm_eq _) rfl, stab_eq, trivial⟩ ?steps ?fin
  case steps =>
    refine ⟨?_, ?_, ?_, ?_, ?_, ?_, ?_, ?_, ?_, trivial⟩
    · intro vs g w2 hI hF hR K hK
      simp only [Facts, fill, Act.put, z1, z2, z3, z4, z5, Nat.reduceAdd] at hF hR hK ⊢
      have k0 := hI.cell Ca_W_0.out (fun _ h => by cases h)
      have k1 := hI.cell Ca_W_1.out (fun _ h => by cases h)
      go_simp
      exact hK _ _ _ hI (Step.refl hI) rfl
    · intro vs g w2 hI hF hR K hK
      simp only [Facts, fill, Act.put, z1, z2, z3, z4, z5, Nat.reduceAdd] at hF hR hK ⊢
      have k0 := hI.cell Cb_W_0.out (fun _ h => by cases h)
      have k1 := hI.cell Cb_W_1.out (fun _ h => by cases h)
      go_simp
      exact hK _ _ _ hI (Step.refl hI) rfl
    · intro vs g w2 hI hF hR K hK
      simp only [Facts, fill, Act.put, z1, z2, z3, z4, z5, Nat.reduceAdd] at hF hR hK ⊢
      obtain ⟨r0, r1, -⟩ := hR
      generalize vs 0 = x0, vs 1 = x1 at *
      subst r0 r1
      go_simp
      refine (gPlProductNo hI (by first | assumption | (unfold S; decide) | exact Bd.s (by first | assumption | exact trX_bd bxa bya | exact trY_bd bxa bya | exact Bd.neg (tmod4_bd _)) (by decide)) (by first | assumption | (unfold S; decide) | exact Bd.s (by first | assumption | exact trX_bd bxa bya | exact trY_bd bxa bya | exact Bd.neg (tmod4_bd _)) (by decide)) (by first | assumption | (unfold S; decide) | exact Bd.s (by first | assumption | exact trX_bd bxa bya | exact trY_bd bxa bya | exact Bd.neg (tmod4_bd _)) (by decide)) (by first | assumption | (unfold S; decide) | exact Bd.s (by first | assumption | exact trX_bd bxa bya | exact trY_bd bxa bya | exact Bd.neg (tmod4_bd _)) (by decide)) (by simp only [Hb.out, Bool.false_and, Bool.and_false])).mono ?_
      rintro e w3 ⟨v3, rfl, hv, hb⟩
      exact hK _ _ _ (hI.call hb) (Step.call hI hb) hv
    · intro vs g w2 hI hF hR K hK
      simp only [Facts, fill, Act.put, z1, z2, z3, z4, z5, Nat.reduceAdd] at hF hR hK ⊢
      obtain ⟨r2, -⟩ := hR
      generalize vs 2 = x2 at *
      subst r2
      go_simp
      exact hK _ _ _ hI (Step.refl hI) rfl
    · intro vs g w2 hI hF hR K hK
      simp only [Facts, fill, Act.put, z1, z2, z3, z4, z5, Nat.reduceAdd] at hF hR hK ⊢
      obtain ⟨r3, -⟩ := hR
      generalize vs 3 = x3 at *
      subst r3
      go_simp
      exact hK _ _ _ hI (Step.refl hI) rfl
    · intro vs g w2 hI hF hR K hK
      simp only [Facts, fill, Act.put, z1, z2, z3, z4, z5, Nat.reduceAdd] at hF hR hK ⊢
      obtain ⟨r3, -⟩ := hR
      generalize vs 3 = x3 at *
      subst r3
      go_simp
      exact hK _ _ _ hI (Step.refl hI) rfl
    · intro vs g w2 hI hF hR K hK
      simp only [Facts, fill, Act.put, z1, z2, z3, z4, z5, Nat.reduceAdd] at hF hR hK ⊢
      go_simp
      exact hK _ _ _ (hI.alloc _ (hF (by decide)) _) (Step.alloc hI (hF (by decide)) _) ⟨_, rfl, more_at _ _ _, box2' _ _ _ _⟩
    · intro vs g w2 hI hF hR K hK
      simp only [Facts, fill, Act.put, z1, z2, z3, z4, z5, Nat.reduceAdd] at hF hR hK ⊢
      obtain ⟨r6, r4, -⟩ := hR
      generalize vs 6 = x6, vs 4 = x4 at *
      subst r4
      obtain ⟨k, rfl, hk, hbx⟩ := r6
      obtain ⟨⟨u0, k0⟩, f0⟩ := hbx 0 (by decide)
      obtain ⟨⟨u1, k1⟩, f1⟩ := hbx 1 (by decide)
      go_simp
      have ht := (((Touch.refl w2 k).set 0 (.int .i64 0)).set 1 (.int .i64 0))
      exact hK undef _ _ (hI.store (by decide) hk ht) (Step.store hI rfl hk ht) ⟨k, .agg #[.int .i64 0, .int .i64 0], hk, by rw [ht.size]; exact hI.lt _ _ hk, cells2 k0 k1 (.int .i64 0) (.int .i64 0), rfl⟩
    · intro vs g w2 hI hF hR K hK
      simp only [Facts, fill, Act.put, z1, z2, z3, z4, z5, Nat.reduceAdd] at hF hR hK ⊢
      obtain ⟨r5, -⟩ := hR
      generalize vs 5 = x5 at *
      subst r5
      go_simp
      exact hK _ _ _ hI (Step.refl hI) rfl
  case fin =>
    intro vs g wR1 hI hR
    have r6 := hR 6 (by decide)
    have r7 := hR 7 (by decide)
    have r8 := hR 8 (by decide)
    simp only [fill, Act.put, z1, z2, z3, z4, z5] at r6 r7 r8 ⊢
    clear hR
    generalize vs 6 = x6 at *
    generalize vs 7 = x7 at *
    generalize vs 8 = x8 at *
    have Ca_R1_0 := Lib.hid (hI.cell Ca_W_0.out (fun _ h => by cases h))
    have Ca_R1_1 := Lib.hid (hI.cell Ca_W_1.out (fun _ h => by cases h))
    have Cb_R1_0 := Lib.hid (hI.cell Cb_W_0.out (fun _ h => by cases h))
    have Cb_R1_1 := Lib.hid (hI.cell Cb_W_1.out (fun _ h => by cases h))
    obtain ⟨pR15, rfl, hkR15, -⟩ := r6
    obtain ⟨qR15, uR15, hqR15, -, hcR15, hrR15⟩ := r7
    rw [hkR15] at hqR15
    injection hqR15 with hqR15
    subst hqR15
    subst hrR15
    have CR15_R1_0 := Lib.hid (hcR15 0 _ rfl)
    have CR15_R1_1 := Lib.hid (hcR15 1 _ rfl)
    clear hcR15 hkR15
    subst r8
    have hBR1 := hI.below
    have HCR1 := hI.next (Ctx.ok_none hb0)
    clear hI
    go_upto_region 2 with (fail)
    refine box_plan0 (c := ⟨w, wR1, (fun _ => none)⟩) HCR1 [[], [(17, 0)], [(18, 1)], [(16, 2)], [(16, 2)], [(19, 3)], [(20, 4)]] [(17, 0), (18, 1), (16, 2), (19, 3), (20, 4), (7, 5), (8, 6)] [
        (fun v _ _ => v = .agg #[.int .i64 xa, .int .i64 ya]),
        NrR (xa * xa + ya * ya),
        NrR (xa * xa + ya * ya),
        FlI (xa * xa + ya * ya),
        (fun v _ _ => v = .int .i64 0),
        FlI (xa * xa + ya * ya),
        (fun v _ _ => v = .int .i64 0)
      ] (fun _ => none) (by kernel_rfl) (by kernel_rfl) ⟨stab_eq, stab_firm (nrR_firm _), stab_firm (nrR_firm _), stab_firm (flI_firm _), stab_eq, stab_firm (flI_firm _), stab_eq, trivial⟩ ?steps ?fin
    case steps =>
      refine ⟨?_, ?_, ?_, ?_, ?_, ?_, ?_, trivial⟩
      · intro vs g w2 hI hF hR K hK
        simp only [Facts, fill, Act.put, z1, z2, z3, z4, z5, Nat.reduceAdd] at hF hR hK ⊢
        have k0 := hI.cell Ca_R1_0.out (fun _ h => by cases h)
        have k1 := hI.cell Ca_R1_1.out (fun _ h => by cases h)
        go_simp
        exact hK _ _ _ hI (Step.refl hI) rfl
      · intro vs g w2 hI hF hR K hK
        simp only [Facts, fill, Act.put, z1, z2, z3, z4, z5, Nat.reduceAdd] at hF hR hK ⊢
        obtain ⟨r0, -⟩ := hR
        generalize vs 0 = x0 at *
        subst r0
        go_simp
        refine (gPlNorm hI Ha.out).mono ?_
        rintro e w3 ⟨v3, rfl, hv, hb⟩
        exact hK _ _ _ (hI.call hb) (Step.call hI hb) hv
      · intro vs g w2 hI hF hR K hK
        simp only [Facts, fill, Act.put, z1, z2, z3, z4, z5, Nat.reduceAdd] at hF hR hK ⊢
        obtain ⟨r1, -⟩ := hR
        generalize vs 1 = x1 at *
        go_simp
        exact hK _ _ _ hI (Step.refl hI) r1
      · intro vs g w2 hI hF hR K hK
        simp only [Facts, fill, Act.put, z1, z2, z3, z4, z5, Nat.reduceAdd] at hF hR hK ⊢
        obtain ⟨r2, -⟩ := hR
        generalize vs 2 = x2 at *
        obtain ⟨rr3, rfl, hr3⟩ := r2
        go_simp
        exact hK _ _ _ hI (Step.refl hI) ⟨_, rfl, hr3⟩
      · intro vs g w2 hI hF hR K hK
        simp only [Facts, fill, Act.put, z1, z2, z3, z4, z5, Nat.reduceAdd] at hF hR hK ⊢
        obtain ⟨r2, -⟩ := hR
        generalize vs 2 = x2 at *
        obtain ⟨rr4, rfl, hr4⟩ := r2
        go_simp
        exact hK _ _ _ hI (Step.refl hI) rfl
      · intro vs g w2 hI hF hR K hK
        simp only [Facts, fill, Act.put, z1, z2, z3, z4, z5, Nat.reduceAdd] at hF hR hK ⊢
        obtain ⟨r3, -⟩ := hR
        generalize vs 3 = x3 at *
        go_simp
        exact hK _ _ _ hI (Step.refl hI) r3
      · intro vs g w2 hI hF hR K hK
        simp only [Facts, fill, Act.put, z1, z2, z3, z4, z5, Nat.reduceAdd] at hF hR hK ⊢
        obtain ⟨r4, -⟩ := hR
        generalize vs 4 = x4 at *
        subst r4
        go_simp
        exact hK _ _ _ hI (Step.refl hI) rfl
    case fin =>
      intro vs g wR2 hI hR
      have r5 := hR 5 (by decide)
      have r6 := hR 6 (by decide)
      simp only [fill, Act.put, z1, z2, z3, z4, z5] at r5 r6 ⊢
      clear hR
      generalize vs 5 = x5 at *
      generalize vs 6 = x6 at *
      have Ca_R2_0 := Lib.hid (hI.cell Ca_R1_0.out (fun _ h => by cases h))
      have Ca_R2_1 := Lib.hid (hI.cell Ca_R1_1.out (fun _ h => by cases h))
      have Cb_R2_0 := Lib.hid (hI.cell Cb_R1_0.out (fun _ h => by cases h))
      have Cb_R2_1 := Lib.hid (hI.cell Cb_R1_1.out (fun _ h => by cases h))
      have CR15_R2_0 := Lib.hid (hI.cell CR15_R1_0.out (fun _ h => by cases h))
      have CR15_R2_1 := Lib.hid (hI.cell CR15_R1_1.out (fun _ h => by cases h))
      have qfR27 := r5
      obtain ⟨fvR27, rfl, -⟩ := flI_open r5
      have FR27_R2_0 := Lib.hid ((flI_firm _) _ _ _ _ _ qfR27 hI.back)
      clear qfR27
      subst r6
      have hBR2 := hI.below
      have HCR2 := hI.next HCR1
      clear hI
      go_upto_region 3 with (fail)
      refine box_plan0 (c := ⟨w, wR2, (fun _ => none)⟩) HCR2 [[], [(21, 0)], [(22, 1)]] [(21, 0), (22, 1), (9, 2)] [
          (fun v _ _ => v = .agg #[.int .i64 xa, .int .i64 ya]),
          (fun v _ _ => v = .bool true),
          (fun v _ _ => v = .bool true)
        ] (fun _ => none) (by kernel_rfl) (by kernel_rfl) ⟨stab_eq, stab_eq, stab_eq, trivial⟩ ?steps ?fin
      case steps =>
        refine ⟨?_, ?_, ?_, trivial⟩
        · intro vs g w2 hI hF hR K hK
          simp only [Facts, fill, Act.put, z1, z2, z3, z4, z5, Nat.reduceAdd] at hF hR hK ⊢
          have k0 := hI.cell Ca_R2_0.out (fun _ h => by cases h)
          have k1 := hI.cell Ca_R2_1.out (fun _ h => by cases h)
          go_simp
          exact hK _ _ _ hI (Step.refl hI) rfl
        · intro vs g w2 hI hF hR K hK
          simp only [Facts, fill, Act.put, z1, z2, z3, z4, z5, Nat.reduceAdd] at hF hR hK ⊢
          obtain ⟨r0, -⟩ := hR
          generalize vs 0 = x0 at *
          subst r0
          go_simp
          refine (gRef9Small hI Ha.out).mono ?_
          rintro e w3 ⟨v3, rfl, hv, hb⟩
          exact hK _ _ _ (hI.call hb) (Step.call hI hb) hv
        · intro vs g w2 hI hF hR K hK
          simp only [Facts, fill, Act.put, z1, z2, z3, z4, z5, Nat.reduceAdd] at hF hR hK ⊢
          obtain ⟨r1, -⟩ := hR
          generalize vs 1 = x1 at *
          subst r1
          go_simp
          exact hK _ _ _ hI (Step.refl hI) rfl
      case fin =>
        intro vs g wR3 hI hR
        have r2 := hR 2 (by decide)
        simp only [fill, Act.put, z1, z2, z3, z4, z5] at r2 ⊢
        clear hR
        generalize vs 2 = x2 at *
        have Ca_R3_0 := Lib.hid (hI.cell Ca_R2_0.out (fun _ h => by cases h))
        have Ca_R3_1 := Lib.hid (hI.cell Ca_R2_1.out (fun _ h => by cases h))
        have Cb_R3_0 := Lib.hid (hI.cell Cb_R2_0.out (fun _ h => by cases h))
        have Cb_R3_1 := Lib.hid (hI.cell Cb_R2_1.out (fun _ h => by cases h))
        have CR15_R3_0 := Lib.hid (hI.cell CR15_R2_0.out (fun _ h => by cases h))
        have CR15_R3_1 := Lib.hid (hI.cell CR15_R2_1.out (fun _ h => by cases h))
        have FR27_R3_0 := Lib.hid ((flI_firm _) _ _ _ _ _ FR27_R2_0.out hI.carry)
        subst r2
        have hBR3 := hI.below
        have HCR3 := hI.next HCR2
        clear hI
        go_upto_region 4 with (fail)
        refine box_plan0 (c := ⟨w, wR3, (fun _ => none)⟩) HCR3 [[], [], [(24, 1)], [(23, 0), (25, 2)]] [(23, 0), (24, 1), (25, 2), (26, 3)] [
            (fun v _ _ => v = .bool true),
            (fun v _ _ => v = .agg #[.int .i64 xa, .int .i64 ya]),
            (fun v _ _ => v = .bool true),
            (fun v _ _ => v = .bool false)
          ] (fun _ => none) (by kernel_rfl) (by kernel_rfl) ⟨stab_eq, stab_eq, stab_eq, stab_eq, trivial⟩ ?steps ?fin
        case steps =>
          refine ⟨?_, ?_, ?_, ?_, trivial⟩
          · intro vs g w2 hI hF hR K hK
            simp only [Facts, fill, Act.put, z1, z2, z3, z4, z5, Nat.reduceAdd] at hF hR hK ⊢
            go_simp
            exact hK _ _ _ hI (Step.refl hI) rfl
          · intro vs g w2 hI hF hR K hK
            simp only [Facts, fill, Act.put, z1, z2, z3, z4, z5, Nat.reduceAdd] at hF hR hK ⊢
            have k0 := hI.cell Ca_R3_0.out (fun _ h => by cases h)
            have k1 := hI.cell Ca_R3_1.out (fun _ h => by cases h)
            go_simp
            exact hK _ _ _ hI (Step.refl hI) rfl
          · intro vs g w2 hI hF hR K hK
            simp only [Facts, fill, Act.put, z1, z2, z3, z4, z5, Nat.reduceAdd] at hF hR hK ⊢
            obtain ⟨r1, -⟩ := hR
            generalize vs 1 = x1 at *
            subst r1
            go_simp
            refine (gPlSmall hI (by first | assumption | (unfold S; decide) | exact Bd.s (by first | assumption | exact trX_bd bxa bya | exact trY_bd bxa bya | exact Bd.neg (tmod4_bd _)) (by decide)) (by first | assumption | (unfold S; decide) | exact Bd.s (by first | assumption | exact trX_bd bxa bya | exact trY_bd bxa bya | exact Bd.neg (tmod4_bd _)) (by decide)) Ha.out).mono ?_
            rintro e w3 ⟨v3, rfl, hv, hb⟩
            exact hK _ _ _ (hI.call hb) (Step.call hI hb) hv
          · intro vs g w2 hI hF hR K hK
            simp only [Facts, fill, Act.put, z1, z2, z3, z4, z5, Nat.reduceAdd] at hF hR hK ⊢
            obtain ⟨r0, r2, -⟩ := hR
            generalize vs 0 = x0, vs 2 = x2 at *
            subst r0 r2
            go_simp
            exact hK _ _ _ hI (Step.refl hI) rfl
        case fin =>
          intro vs g wR4 hI hR
          have r3 := hR 3 (by decide)
          simp only [fill, Act.put, z1, z2, z3, z4, z5] at r3 ⊢
          clear hR
          generalize vs 3 = x3 at *
          have Ca_R4_0 := Lib.hid (hI.cell Ca_R3_0.out (fun _ h => by cases h))
          have Ca_R4_1 := Lib.hid (hI.cell Ca_R3_1.out (fun _ h => by cases h))
          have Cb_R4_0 := Lib.hid (hI.cell Cb_R3_0.out (fun _ h => by cases h))
          have Cb_R4_1 := Lib.hid (hI.cell Cb_R3_1.out (fun _ h => by cases h))
          have CR15_R4_0 := Lib.hid (hI.cell CR15_R3_0.out (fun _ h => by cases h))
          have CR15_R4_1 := Lib.hid (hI.cell CR15_R3_1.out (fun _ h => by cases h))
          have FR27_R4_0 := Lib.hid ((flI_firm _) _ _ _ _ _ FR27_R3_0.out hI.carry)
          subst r3
          have hBR4 := hI.below
          have HCR4 := hI.next HCR3
          clear hI
          go_upto_region 6 with (fail)
          refine box_plan0 (c := ⟨w, wR4, (fun _ => none)⟩) HCR4 [[], [(27, 0)], [(28, 1)], [(29, 2)], [(29, 2), (30, 3)], [(29, 2), (31, 4)], [(32, 5)], [(32, 5), (33, 6)], [(29, 2), (32, 5), (34, 7)], [(29, 2), (35, 8)], [(36, 9)], [(37, 10)], [(37, 10), (38, 11)], [(39, 12)], [(39, 12), (40, 13)], [(39, 12), (41, 14)], [(42, 15)], [(42, 15)], [(42, 15), (44, 17)], [(42, 15), (45, 18)], [(42, 15), (43, 16), (46, 19)], [(39, 12), (42, 15), (47, 20)], [(37, 10), (39, 12), (48, 21)], [(37, 10), (49, 22)]] [(27, 0), (28, 1), (29, 2), (30, 3), (31, 4), (32, 5), (33, 6), (34, 7), (35, 8), (36, 9), (37, 10), (38, 11), (39, 12), (40, 13), (41, 14), (42, 15), (43, 16), (44, 17), (45, 18), (46, 19), (47, 20), (48, 21), (49, 22), (50, 23)] [
              (fun v _ _ => v = .bool true),
              (fun v _ _ => v = .bool false),
              (fun v _ _ => v = .bool false),
              (fun v _ _ => v = undef),
              (fun v _ _ => v = undef),
              (fun v _ _ => v = undef),
              (fun v _ _ => v = undef),
              (fun v _ _ => v = undef),
              (fun v _ _ => v = undef),
              (fun v _ _ => v = .bool false),
              (fun v _ _ => v = .bool false),
              (fun v _ _ => v = .bool true),
              (fun v _ _ => v = .bool true),
              (fun v _ _ => v = .int .i64 0),
              (fun v _ _ => v = .bool false),
              (fun v _ _ => v = .bool false),
              (fun v _ _ => v = .float .f64 fvR27),
              (fun v _ _ => v = .agg #[.int .i64 xa, .int .i64 ya]),
              (fun v _ _ => v = .int .i64 (xa * xa + ya * ya)),
              (fun v _ _ => v = .float .f64 (floatOfInt .f64 (xa * xa + ya * ya))),
              (fun v _ _ => v = .bool false),
              (fun v _ _ => v = .bool false),
              (fun v _ _ => v = .bool false),
              (fun v _ _ => v = .bool false)
            ] (fun _ => none) (by kernel_rfl) (by kernel_rfl) ⟨stab_eq, stab_eq, stab_eq, stab_eq, stab_eq, stab_eq, stab_eq, stab_eq, stab_eq, stab_eq, stab_eq, stab_eq, stab_eq, stab_eq, stab_eq, stab_eq, stab_eq, stab_eq, stab_eq, stab_eq, stab_eq, stab_eq, stab_eq, stab_eq, trivial⟩ ?steps ?fin
          case steps =>
            refine ⟨?_, ?_, ?_, ?_, ?_, ?_, ?_, ?_, ?_, ?_, ?_, ?_, ?_, ?_, ?_, ?_, ?_, ?_, ?_, ?_, ?_, ?_, ?_, ?_, trivial⟩
            · intro vs g w2 hI hF hR K hK
              simp only [Facts, fill, Act.put, z1, z2, z3, z4, z5, Nat.reduceAdd] at hF hR hK ⊢
              go_simp
              exact hK _ _ _ hI (Step.refl hI) rfl
            · intro vs g w2 hI hF hR K hK
              simp only [Facts, fill, Act.put, z1, z2, z3, z4, z5, Nat.reduceAdd] at hF hR hK ⊢
              obtain ⟨r0, -⟩ := hR
              generalize vs 0 = x0 at *
              subst r0
              go_simp
              exact hK _ _ _ hI (Step.refl hI) rfl
            · intro vs g w2 hI hF hR K hK
              simp only [Facts, fill, Act.put, z1, z2, z3, z4, z5, Nat.reduceAdd] at hF hR hK ⊢
              obtain ⟨r1, -⟩ := hR
              generalize vs 1 = x1 at *
              subst r1
              go_simp
              exact hK _ _ _ hI (Step.refl hI) rfl
            · intro vs g w2 hI hF hR K hK
              simp only [Facts, fill, Act.put, z1, z2, z3, z4, z5, Nat.reduceAdd] at hF hR hK ⊢
              obtain ⟨r2, -⟩ := hR
              generalize vs 2 = x2 at *
              subst r2
              go_simp
              exact hK _ _ _ hI (Step.refl hI) rfl
            · intro vs g w2 hI hF hR K hK
              simp only [Facts, fill, Act.put, z1, z2, z3, z4, z5, Nat.reduceAdd] at hF hR hK ⊢
              obtain ⟨r2, r3, -⟩ := hR
              generalize vs 2 = x2, vs 3 = x3 at *
              subst r2 r3
              go_simp
              exact hK _ _ _ hI (Step.refl hI) rfl
            · intro vs g w2 hI hF hR K hK
              simp only [Facts, fill, Act.put, z1, z2, z3, z4, z5, Nat.reduceAdd] at hF hR hK ⊢
              obtain ⟨r2, r4, -⟩ := hR
              generalize vs 2 = x2, vs 4 = x4 at *
              subst r2 r4
              go_simp
              exact hK _ _ _ hI (Step.refl hI) rfl
            · intro vs g w2 hI hF hR K hK
              simp only [Facts, fill, Act.put, z1, z2, z3, z4, z5, Nat.reduceAdd] at hF hR hK ⊢
              obtain ⟨r5, -⟩ := hR
              generalize vs 5 = x5 at *
              subst r5
              go_simp
              exact hK _ _ _ hI (Step.refl hI) rfl
            · intro vs g w2 hI hF hR K hK
              simp only [Facts, fill, Act.put, z1, z2, z3, z4, z5, Nat.reduceAdd] at hF hR hK ⊢
              obtain ⟨r5, r6, -⟩ := hR
              generalize vs 5 = x5, vs 6 = x6 at *
              subst r5 r6
              go_simp
              exact hK _ _ _ hI (Step.refl hI) rfl
            · intro vs g w2 hI hF hR K hK
              simp only [Facts, fill, Act.put, z1, z2, z3, z4, z5, Nat.reduceAdd] at hF hR hK ⊢
              obtain ⟨r2, r5, r7, -⟩ := hR
              generalize vs 2 = x2, vs 5 = x5, vs 7 = x7 at *
              subst r2 r5 r7
              go_simp
              exact hK _ _ _ hI (Step.refl hI) rfl
            · intro vs g w2 hI hF hR K hK
              simp only [Facts, fill, Act.put, z1, z2, z3, z4, z5, Nat.reduceAdd] at hF hR hK ⊢
              obtain ⟨r2, r8, -⟩ := hR
              generalize vs 2 = x2, vs 8 = x8 at *
              subst r2 r8
              go_simp
              exact hK _ _ _ hI (Step.refl hI) rfl
            · intro vs g w2 hI hF hR K hK
              simp only [Facts, fill, Act.put, z1, z2, z3, z4, z5, Nat.reduceAdd] at hF hR hK ⊢
              obtain ⟨r9, -⟩ := hR
              generalize vs 9 = x9 at *
              subst r9
              go_simp
              exact hK _ _ _ hI (Step.refl hI) rfl
            · intro vs g w2 hI hF hR K hK
              simp only [Facts, fill, Act.put, z1, z2, z3, z4, z5, Nat.reduceAdd] at hF hR hK ⊢
              obtain ⟨r10, -⟩ := hR
              generalize vs 10 = x10 at *
              subst r10
              go_simp
              exact hK _ _ _ hI (Step.refl hI) rfl
            · intro vs g w2 hI hF hR K hK
              simp only [Facts, fill, Act.put, z1, z2, z3, z4, z5, Nat.reduceAdd] at hF hR hK ⊢
              obtain ⟨r10, r11, -⟩ := hR
              generalize vs 10 = x10, vs 11 = x11 at *
              subst r10 r11
              go_simp
              exact hK _ _ _ hI (Step.refl hI) rfl
            · intro vs g w2 hI hF hR K hK
              simp only [Facts, fill, Act.put, z1, z2, z3, z4, z5, Nat.reduceAdd] at hF hR hK ⊢
              obtain ⟨r12, -⟩ := hR
              generalize vs 12 = x12 at *
              subst r12
              go_simp
              exact hK _ _ _ hI (Step.refl hI) rfl
            · intro vs g w2 hI hF hR K hK
              simp only [Facts, fill, Act.put, z1, z2, z3, z4, z5, Nat.reduceAdd] at hF hR hK ⊢
              obtain ⟨r12, r13, -⟩ := hR
              generalize vs 12 = x12, vs 13 = x13 at *
              subst r12 r13
              go_simp
              exact hK _ _ _ hI (Step.refl hI) rfl
            · intro vs g w2 hI hF hR K hK
              simp only [Facts, fill, Act.put, z1, z2, z3, z4, z5, Nat.reduceAdd] at hF hR hK ⊢
              obtain ⟨r12, r14, -⟩ := hR
              generalize vs 12 = x12, vs 14 = x14 at *
              subst r12 r14
              go_simp
              exact hK _ _ _ hI (Step.refl hI) rfl
            · intro vs g w2 hI hF hR K hK
              simp only [Facts, fill, Act.put, z1, z2, z3, z4, z5, Nat.reduceAdd] at hF hR hK ⊢
              obtain ⟨r15, -⟩ := hR
              generalize vs 15 = x15 at *
              subst r15
              go_simp
              exact hK _ _ _ hI (Step.refl hI) rfl
            · intro vs g w2 hI hF hR K hK
              simp only [Facts, fill, Act.put, z1, z2, z3, z4, z5, Nat.reduceAdd] at hF hR hK ⊢
              obtain ⟨r15, -⟩ := hR
              generalize vs 15 = x15 at *
              subst r15
              have k0 := hI.cell Ca_R4_0.out (fun _ h => by cases h)
              have k1 := hI.cell Ca_R4_1.out (fun _ h => by cases h)
              go_simp
              exact hK _ _ _ hI (Step.refl hI) rfl
            · intro vs g w2 hI hF hR K hK
              simp only [Facts, fill, Act.put, z1, z2, z3, z4, z5, Nat.reduceAdd] at hF hR hK ⊢
              obtain ⟨r15, r17, -⟩ := hR
              generalize vs 15 = x15, vs 17 = x17 at *
              subst r15 r17
              go_simp
              refine (gRef9Norm hI (small_bd Ha.out).1 (small_bd Ha.out).2).mono ?_
              rintro e w3 ⟨v3, rfl, hv, hb⟩
              exact hK _ _ _ (hI.call hb) (Step.call hI hb) hv
            · intro vs g w2 hI hF hR K hK
              simp only [Facts, fill, Act.put, z1, z2, z3, z4, z5, Nat.reduceAdd] at hF hR hK ⊢
              obtain ⟨r15, r18, -⟩ := hR
              generalize vs 15 = x15, vs 18 = x18 at *
              subst r15 r18
              go_simp
              exact hK _ _ _ hI (Step.refl hI) rfl
            · intro vs g w2 hI hF hR K hK
              simp only [Facts, fill, Act.put, z1, z2, z3, z4, z5, Nat.reduceAdd] at hF hR hK ⊢
              obtain ⟨r15, r16, r19, -⟩ := hR
              generalize vs 15 = x15, vs 16 = x16, vs 19 = x19 at *
              subst r15 r16 r19
              have hz := fl_eq (flI_fi FR27_R4_0.out) (fiB (Bd.add (Bd.mul bxa bxa) (Bd.mul bya bya)) (by decide)) (by first | rfl | exact tr_norm _ _ _ | grind)
              go_simp
              exact hK _ _ _ hI (Step.refl hI) rfl
            · intro vs g w2 hI hF hR K hK
              simp only [Facts, fill, Act.put, z1, z2, z3, z4, z5, Nat.reduceAdd] at hF hR hK ⊢
              obtain ⟨r12, r15, r20, -⟩ := hR
              generalize vs 12 = x12, vs 15 = x15, vs 20 = x20 at *
              subst r12 r15 r20
              go_simp
              exact hK _ _ _ hI (Step.refl hI) rfl
            · intro vs g w2 hI hF hR K hK
              simp only [Facts, fill, Act.put, z1, z2, z3, z4, z5, Nat.reduceAdd] at hF hR hK ⊢
              obtain ⟨r10, r12, r21, -⟩ := hR
              generalize vs 10 = x10, vs 12 = x12, vs 21 = x21 at *
              subst r10 r12 r21
              go_simp
              exact hK _ _ _ hI (Step.refl hI) rfl
            · intro vs g w2 hI hF hR K hK
              simp only [Facts, fill, Act.put, z1, z2, z3, z4, z5, Nat.reduceAdd] at hF hR hK ⊢
              obtain ⟨r10, r22, -⟩ := hR
              generalize vs 10 = x10, vs 22 = x22 at *
              subst r10 r22
              go_simp
              exact hK _ _ _ hI (Step.refl hI) rfl
          case fin =>
            intro vs g wR6 hI hR
            have r23 := hR 23 (by decide)
            simp only [fill, Act.put, z1, z2, z3, z4, z5] at r23 ⊢
            clear hR
            generalize vs 23 = x23 at *
            have Ca_R6_0 := Lib.hid (hI.cell Ca_R4_0.out (fun _ h => by cases h))
            have Ca_R6_1 := Lib.hid (hI.cell Ca_R4_1.out (fun _ h => by cases h))
            have Cb_R6_0 := Lib.hid (hI.cell Cb_R4_0.out (fun _ h => by cases h))
            have Cb_R6_1 := Lib.hid (hI.cell Cb_R4_1.out (fun _ h => by cases h))
            have CR15_R6_0 := Lib.hid (hI.cell CR15_R4_0.out (fun _ h => by cases h))
            have CR15_R6_1 := Lib.hid (hI.cell CR15_R4_1.out (fun _ h => by cases h))
            have FR27_R6_0 := Lib.hid ((flI_firm _) _ _ _ _ _ FR27_R4_0.out hI.carry)
            subst r23
            have hBR6 := hI.below
            have HCR6 := hI.next HCR4
            clear hI
            go_upto_region 8 with (fail)
            refine box_plan0 (c := ⟨w, wR6, (fun _ => none)⟩) HCR6 [[], [(51, 0)], [(52, 1)], [(53, 2)], [(53, 2), (54, 3)], [(53, 2), (55, 4)], [(53, 2), (56, 5)]] [(51, 0), (52, 1), (53, 2), (54, 3), (55, 4), (56, 5), (57, 6)] [
                (fun v _ _ => v = .bool true),
                (fun v _ _ => v = .bool false),
                (fun v _ _ => v = .bool false),
                (fun v _ _ => v = .agg #[.int .i64 xb, .int .i64 yb]),
                (fun v _ _ => v = .bool false),
                (fun v _ _ => v = .bool true),
                (fun v _ _ => v = .bool true)
              ] (fun _ => none) (by kernel_rfl) (by kernel_rfl) ⟨stab_eq, stab_eq, stab_eq, stab_eq, stab_eq, stab_eq, stab_eq, trivial⟩ ?steps ?fin
            case steps =>
              refine ⟨?_, ?_, ?_, ?_, ?_, ?_, ?_, trivial⟩
              · intro vs g w2 hI hF hR K hK
                simp only [Facts, fill, Act.put, z1, z2, z3, z4, z5, Nat.reduceAdd] at hF hR hK ⊢
                go_simp
                exact hK _ _ _ hI (Step.refl hI) rfl
              · intro vs g w2 hI hF hR K hK
                simp only [Facts, fill, Act.put, z1, z2, z3, z4, z5, Nat.reduceAdd] at hF hR hK ⊢
                obtain ⟨r0, -⟩ := hR
                generalize vs 0 = x0 at *
                subst r0
                go_simp
                exact hK _ _ _ hI (Step.refl hI) rfl
              · intro vs g w2 hI hF hR K hK
                simp only [Facts, fill, Act.put, z1, z2, z3, z4, z5, Nat.reduceAdd] at hF hR hK ⊢
                obtain ⟨r1, -⟩ := hR
                generalize vs 1 = x1 at *
                subst r1
                go_simp
                exact hK _ _ _ hI (Step.refl hI) rfl
              · intro vs g w2 hI hF hR K hK
                simp only [Facts, fill, Act.put, z1, z2, z3, z4, z5, Nat.reduceAdd] at hF hR hK ⊢
                obtain ⟨r2, -⟩ := hR
                generalize vs 2 = x2 at *
                subst r2
                have k0 := hI.cell Cb_R6_0.out (fun _ h => by cases h)
                have k1 := hI.cell Cb_R6_1.out (fun _ h => by cases h)
                go_simp
                exact hK _ _ _ hI (Step.refl hI) rfl
              · intro vs g w2 hI hF hR K hK
                simp only [Facts, fill, Act.put, z1, z2, z3, z4, z5, Nat.reduceAdd] at hF hR hK ⊢
                obtain ⟨r2, r3, -⟩ := hR
                generalize vs 2 = x2, vs 3 = x3 at *
                subst r2 r3
                go_simp
                refine (gRef9Small hI Hb.out).mono ?_
                rintro e w3 ⟨v3, rfl, hv, hb⟩
                exact hK _ _ _ (hI.call hb) (Step.call hI hb) hv
              · intro vs g w2 hI hF hR K hK
                simp only [Facts, fill, Act.put, z1, z2, z3, z4, z5, Nat.reduceAdd] at hF hR hK ⊢
                obtain ⟨r2, r4, -⟩ := hR
                generalize vs 2 = x2, vs 4 = x4 at *
                subst r2 r4
                go_simp
                exact hK _ _ _ hI (Step.refl hI) rfl
              · intro vs g w2 hI hF hR K hK
                simp only [Facts, fill, Act.put, z1, z2, z3, z4, z5, Nat.reduceAdd] at hF hR hK ⊢
                obtain ⟨r2, r5, -⟩ := hR
                generalize vs 2 = x2, vs 5 = x5 at *
                subst r2 r5
                go_simp
                exact hK _ _ _ hI (Step.refl hI) rfl
            case fin =>
              intro vs g wR8 hI hR
              have r6 := hR 6 (by decide)
              simp only [fill, Act.put, z1, z2, z3, z4, z5] at r6 ⊢
              clear hR
              generalize vs 6 = x6 at *
              have Ca_R8_0 := Lib.hid (hI.cell Ca_R6_0.out (fun _ h => by cases h))
              have Ca_R8_1 := Lib.hid (hI.cell Ca_R6_1.out (fun _ h => by cases h))
              have Cb_R8_0 := Lib.hid (hI.cell Cb_R6_0.out (fun _ h => by cases h))
              have Cb_R8_1 := Lib.hid (hI.cell Cb_R6_1.out (fun _ h => by cases h))
              have CR15_R8_0 := Lib.hid (hI.cell CR15_R6_0.out (fun _ h => by cases h))
              have CR15_R8_1 := Lib.hid (hI.cell CR15_R6_1.out (fun _ h => by cases h))
              have FR27_R8_0 := Lib.hid ((flI_firm _) _ _ _ _ _ FR27_R6_0.out hI.carry)
              subst r6
              have hBR8 := hI.below
              have HCR8 := hI.next HCR6
              clear hI
              go_upto_region 9 with (fail)
              refine box_plan0 (c := ⟨w, wR8, (fun _ => none)⟩) HCR8 [[], [(58, 0)], [(59, 1)], [(59, 1), (60, 2)], [(59, 1), (61, 3)], [(62, 4)], [(63, 5)], [(63, 5)], [(63, 5), (64, 6), (65, 7)], [(63, 5), (66, 8)], [(67, 9)]] [(58, 0), (59, 1), (60, 2), (61, 3), (62, 4), (63, 5), (64, 6), (65, 7), (66, 8), (67, 9), (4, 10)] [
                  (fun v _ _ => v = .bool true),
                  (fun v _ _ => v = .bool true),
                  (fun v _ _ => v = .int .i64 3),
                  (fun v _ _ => v = .bool true),
                  (fun v _ _ => v = .bool true),
                  (fun v _ _ => v = .bool true),
                  (fun v _ _ => v = .agg #[.int .i64 0, .int .i64 0]),
                  (fun v _ _ => v = .agg #[.int .i64 0, .int .i64 0]),
                  (fun v _ _ => v = .bool true),
                  (fun v _ _ => v = .bool true),
                  (fun v _ _ => v = .bool true)
                ] (fun _ => none) (by kernel_rfl) (by kernel_rfl) ⟨stab_eq, stab_eq, stab_eq, stab_eq, stab_eq, stab_eq, stab_eq, stab_eq, stab_eq, stab_eq, stab_eq, trivial⟩ ?steps ?fin
              case steps =>
                refine ⟨?_, ?_, ?_, ?_, ?_, ?_, ?_, ?_, ?_, ?_, ?_, trivial⟩
                · intro vs g w2 hI hF hR K hK
                  simp only [Facts, fill, Act.put, z1, z2, z3, z4, z5, Nat.reduceAdd] at hF hR hK ⊢
                  go_simp
                  refine (gAlive9 hI).mono ?_
                  rintro e w3 ⟨v3, rfl, hv, hb⟩
                  exact hK _ _ _ (hI.call hb) (Step.call hI hb) hv
                · intro vs g w2 hI hF hR K hK
                  simp only [Facts, fill, Act.put, z1, z2, z3, z4, z5, Nat.reduceAdd] at hF hR hK ⊢
                  obtain ⟨r0, -⟩ := hR
                  generalize vs 0 = x0 at *
                  subst r0
                  go_simp
                  exact hK _ _ _ hI (Step.refl hI) rfl
                · intro vs g w2 hI hF hR K hK
                  simp only [Facts, fill, Act.put, z1, z2, z3, z4, z5, Nat.reduceAdd] at hF hR hK ⊢
                  obtain ⟨r1, -⟩ := hR
                  generalize vs 1 = x1 at *
                  subst r1
                  go_simp
                  exact hK _ _ _ hI (Step.refl hI) rfl
                · intro vs g w2 hI hF hR K hK
                  simp only [Facts, fill, Act.put, z1, z2, z3, z4, z5, Nat.reduceAdd] at hF hR hK ⊢
                  obtain ⟨r1, r2, -⟩ := hR
                  generalize vs 1 = x1, vs 2 = x2 at *
                  subst r1 r2
                  go_simp
                  exact hK _ _ _ hI (Step.refl hI) rfl
                · intro vs g w2 hI hF hR K hK
                  simp only [Facts, fill, Act.put, z1, z2, z3, z4, z5, Nat.reduceAdd] at hF hR hK ⊢
                  obtain ⟨r1, r3, -⟩ := hR
                  generalize vs 1 = x1, vs 3 = x3 at *
                  subst r1 r3
                  go_simp
                  exact hK _ _ _ hI (Step.refl hI) rfl
                · intro vs g w2 hI hF hR K hK
                  simp only [Facts, fill, Act.put, z1, z2, z3, z4, z5, Nat.reduceAdd] at hF hR hK ⊢
                  obtain ⟨r4, -⟩ := hR
                  generalize vs 4 = x4 at *
                  subst r4
                  go_simp
                  exact hK _ _ _ hI (Step.refl hI) rfl
                · intro vs g w2 hI hF hR K hK
                  simp only [Facts, fill, Act.put, z1, z2, z3, z4, z5, Nat.reduceAdd] at hF hR hK ⊢
                  obtain ⟨r5, -⟩ := hR
                  generalize vs 5 = x5 at *
                  subst r5
                  have k0 := hI.cell CR15_R8_0.out (fun _ h => by cases h)
                  have k1 := hI.cell CR15_R8_1.out (fun _ h => by cases h)
                  go_simp
                  exact hK _ _ _ hI (Step.refl hI) rfl
                · intro vs g w2 hI hF hR K hK
                  simp only [Facts, fill, Act.put, z1, z2, z3, z4, z5, Nat.reduceAdd] at hF hR hK ⊢
                  obtain ⟨r5, -⟩ := hR
                  generalize vs 5 = x5 at *
                  subst r5
                  go_simp
                  exact hK _ _ _ hI (Step.refl hI) rfl
                · intro vs g w2 hI hF hR K hK
                  simp only [Facts, fill, Act.put, z1, z2, z3, z4, z5, Nat.reduceAdd] at hF hR hK ⊢
                  obtain ⟨r5, r6, r7, -⟩ := hR
                  generalize vs 5 = x5, vs 6 = x6, vs 7 = x7 at *
                  subst r5 r6 r7
                  have hz0 : (0 == 0) = true := beq_self_eq_true _
                  have hz1 : (0 == 0) = true := beq_self_eq_true _
                  go_simp
                  exact hK _ _ _ hI (Step.refl hI) rfl
                · intro vs g w2 hI hF hR K hK
                  simp only [Facts, fill, Act.put, z1, z2, z3, z4, z5, Nat.reduceAdd] at hF hR hK ⊢
                  obtain ⟨r5, r8, -⟩ := hR
                  generalize vs 5 = x5, vs 8 = x8 at *
                  subst r5 r8
                  go_simp
                  exact hK _ _ _ hI (Step.refl hI) rfl
                · intro vs g w2 hI hF hR K hK
                  simp only [Facts, fill, Act.put, z1, z2, z3, z4, z5, Nat.reduceAdd] at hF hR hK ⊢
                  obtain ⟨r9, -⟩ := hR
                  generalize vs 9 = x9 at *
                  subst r9
                  go_simp
                  exact hK _ _ _ hI (Step.refl hI) rfl
              case fin =>
                intro vs g wR9 hI hR
                have r10 := hR 10 (by decide)
                simp only [fill, Act.put, z1, z2, z3, z4, z5] at r10 ⊢
                clear hR
                generalize vs 10 = x10 at *
                have Ca_R9_0 := Lib.hid (hI.cell Ca_R8_0.out (fun _ h => by cases h))
                have Ca_R9_1 := Lib.hid (hI.cell Ca_R8_1.out (fun _ h => by cases h))
                have Cb_R9_0 := Lib.hid (hI.cell Cb_R8_0.out (fun _ h => by cases h))
                have Cb_R9_1 := Lib.hid (hI.cell Cb_R8_1.out (fun _ h => by cases h))
                have CR15_R9_0 := Lib.hid (hI.cell CR15_R8_0.out (fun _ h => by cases h))
                have CR15_R9_1 := Lib.hid (hI.cell CR15_R8_1.out (fun _ h => by cases h))
                have FR27_R9_0 := Lib.hid ((flI_firm _) _ _ _ _ _ FR27_R8_0.out hI.carry)
                subst r10
                have hBR9 := hI.below
                have HCR9 := hI.next HCR8
                clear hI
                go_wp2
                go_ret
                exact ⟨rfl, hBR9⟩
set_option maxRecDepth 100000 in
set_option maxHeartbeats 4000000 in
theorem law9M_TT (xa ya xb yb : Int) (sxa : S xa) (sya : S ya) (sxb : S xb) (syb : S yb) (w : World) (ha : smallB xa ya = true) (hb : smallB xb yb = true) :
    Calls Try.prog 4 #[.agg #[.int .i64 xa, .int .i64 ya], .agg #[.int .i64 xb, .int .i64 yb]] w fun e w' => e = .returned (.bool true) ∧ Below w.heap.size w w' := by
  have Ha := Lib.hid ha
  obtain ⟨bxa, bya⟩ := small_bd ha
  clear ha
  have Hb := Lib.hid hb
  obtain ⟨bxb, byb⟩ := small_bd hb
  clear hb
  obtain ⟨W, hW⟩ : ∃ W, W = (w.alloc (.cells #[.int .i64 xa, .int .i64 ya] 23)).alloc (.cells #[.int .i64 xb, .int .i64 yb] 23) := ⟨_, rfl⟩
  have hb0 : Below w.heap.size w W := by rw [hW]; exact (((Below.refl _ _).alloc (Nat.le_refl _) _).alloc (by simp) _)
  have Ca_W_0 := Lib.hid (show W.cell? ⟨w.heap.size, 0, none⟩ = some (.int .i64 xa) by rw [hW]; simp [go_sem])
  have Ca_W_1 := Lib.hid (show W.cell? ⟨w.heap.size, 1, none⟩ = some (.int .i64 ya) by rw [hW]; simp [go_sem])
  have Cb_W_0 := Lib.hid (show W.cell? ⟨w.heap.size + 1, 0, none⟩ = some (.int .i64 xb) by rw [hW]; simp [go_sem])
  have Cb_W_1 := Lib.hid (show W.cell? ⟨w.heap.size + 1, 1, none⟩ = some (.int .i64 yb) by rw [hW]; simp [go_sem])
  have HW := Lib.hid hW
  clear hW
  go_enter Try.func4, Try.ntmps4
  go_upto_region 1 with (fail)
  rw [← HW.out]
  refine box_plan0 (c := ⟨w, W, (fun _ => none)⟩) (Ctx.ok_none hb0) [[], [], [(11, 0), (12, 1)], [(13, 2)], [(10, 3)], [(10, 3)], [], [(5, 6), (14, 4)], [(15, 5)]] [(11, 0), (12, 1), (13, 2), (10, 3), (14, 4), (15, 5), (5, 6), (6, 8)] [
      (fun v _ _ => v = .agg #[.int .i64 xa, .int .i64 ya]),
      (fun v _ _ => v = .agg #[.int .i64 xb, .int .i64 yb]),
      (fun v _ _ => v = .tuple #[.agg #[.int .i64 (xa * xb - ya * yb), .int .i64 (xa * yb + ya * xb)], .int .i64 0]),
      (fun v _ _ => v = .tuple #[.agg #[.int .i64 (xa * xb - ya * yb), .int .i64 (xa * yb + ya * xb)], .int .i64 0]),
      (fun v _ _ => v = .agg #[.int .i64 (xa * xb - ya * yb), .int .i64 (xa * yb + ya * xb)]),
      (fun v _ _ => v = .int .i64 0),
      PtrR 6 2,
      (fun _ g w => BoxR 6 (fun v _ _ => v = .agg #[.int .i64 (xa * xb - ya * yb), .int .i64 (xa * yb + ya * xb)]) g w),
      (fun v _ _ => v = .int .i64 0)
    ] (fun i => match i with | 6 => some 7 | _ => none) (by kernel_rfl) (by kernel_rfl) ⟨stab_eq, stab_eq, stab_eq, stab_eq, stab_eq, stab_eq, stab_ptr, stab_box (firm_eq _) rfl, stab_eq, trivial⟩ ?steps ?fin
  case steps =>
    refine ⟨?_, ?_, ?_, ?_, ?_, ?_, ?_, ?_, ?_, trivial⟩
    · intro vs g w2 hI hF hR K hK
      simp only [Facts, fill, Act.put, z1, z2, z3, z4, z5, Nat.reduceAdd] at hF hR hK ⊢
      have k0 := hI.cell Ca_W_0.out (fun _ h => by cases h)
      have k1 := hI.cell Ca_W_1.out (fun _ h => by cases h)
      go_simp
      exact hK _ _ _ hI (Step.refl hI) rfl
    · intro vs g w2 hI hF hR K hK
      simp only [Facts, fill, Act.put, z1, z2, z3, z4, z5, Nat.reduceAdd] at hF hR hK ⊢
      have k0 := hI.cell Cb_W_0.out (fun _ h => by cases h)
      have k1 := hI.cell Cb_W_1.out (fun _ h => by cases h)
      go_simp
      exact hK _ _ _ hI (Step.refl hI) rfl
    · intro vs g w2 hI hF hR K hK
      simp only [Facts, fill, Act.put, z1, z2, z3, z4, z5, Nat.reduceAdd] at hF hR hK ⊢
      obtain ⟨r0, r1, -⟩ := hR
      generalize vs 0 = x0, vs 1 = x1 at *
      subst r0 r1
      go_simp
      refine (gPlProduct hI Ha.out Hb.out).mono ?_
      rintro e w3 ⟨v3, rfl, hv, hb⟩
      exact hK _ _ _ (hI.call hb) (Step.call hI hb) hv
    · intro vs g w2 hI hF hR K hK
      simp only [Facts, fill, Act.put, z1, z2, z3, z4, z5, Nat.reduceAdd] at hF hR hK ⊢
      obtain ⟨r2, -⟩ := hR
      generalize vs 2 = x2 at *
      subst r2
      go_simp
      exact hK _ _ _ hI (Step.refl hI) rfl
    · intro vs g w2 hI hF hR K hK
      simp only [Facts, fill, Act.put, z1, z2, z3, z4, z5, Nat.reduceAdd] at hF hR hK ⊢
      obtain ⟨r3, -⟩ := hR
      generalize vs 3 = x3 at *
      subst r3
      go_simp
      exact hK _ _ _ hI (Step.refl hI) rfl
    · intro vs g w2 hI hF hR K hK
      simp only [Facts, fill, Act.put, z1, z2, z3, z4, z5, Nat.reduceAdd] at hF hR hK ⊢
      obtain ⟨r3, -⟩ := hR
      generalize vs 3 = x3 at *
      subst r3
      go_simp
      exact hK _ _ _ hI (Step.refl hI) rfl
    · intro vs g w2 hI hF hR K hK
      simp only [Facts, fill, Act.put, z1, z2, z3, z4, z5, Nat.reduceAdd] at hF hR hK ⊢
      go_simp
      exact hK _ _ _ (hI.alloc _ (hF (by decide)) _) (Step.alloc hI (hF (by decide)) _) ⟨_, rfl, more_at _ _ _, box2' _ _ _ _⟩
    · intro vs g w2 hI hF hR K hK
      simp only [Facts, fill, Act.put, z1, z2, z3, z4, z5, Nat.reduceAdd] at hF hR hK ⊢
      obtain ⟨r6, r4, -⟩ := hR
      generalize vs 6 = x6, vs 4 = x4 at *
      subst r4
      obtain ⟨k, rfl, hk, hbx⟩ := r6
      obtain ⟨⟨u0, k0⟩, f0⟩ := hbx 0 (by decide)
      obtain ⟨⟨u1, k1⟩, f1⟩ := hbx 1 (by decide)
      go_simp
      have ht := (((Touch.refl w2 k).set 0 (.int .i64 (xa * xb - ya * yb))).set 1 (.int .i64 (xa * yb + ya * xb)))
      exact hK undef _ _ (hI.store (by decide) hk ht) (Step.store hI rfl hk ht) ⟨k, .agg #[.int .i64 (xa * xb - ya * yb), .int .i64 (xa * yb + ya * xb)], hk, by rw [ht.size]; exact hI.lt _ _ hk, cells2 k0 k1 (.int .i64 (xa * xb - ya * yb)) (.int .i64 (xa * yb + ya * xb)), rfl⟩
    · intro vs g w2 hI hF hR K hK
      simp only [Facts, fill, Act.put, z1, z2, z3, z4, z5, Nat.reduceAdd] at hF hR hK ⊢
      obtain ⟨r5, -⟩ := hR
      generalize vs 5 = x5 at *
      subst r5
      go_simp
      exact hK _ _ _ hI (Step.refl hI) rfl
  case fin =>
    intro vs g wR1 hI hR
    have r6 := hR 6 (by decide)
    have r7 := hR 7 (by decide)
    have r8 := hR 8 (by decide)
    simp only [fill, Act.put, z1, z2, z3, z4, z5] at r6 r7 r8 ⊢
    clear hR
    generalize vs 6 = x6 at *
    generalize vs 7 = x7 at *
    generalize vs 8 = x8 at *
    have Ca_R1_0 := Lib.hid (hI.cell Ca_W_0.out (fun _ h => by cases h))
    have Ca_R1_1 := Lib.hid (hI.cell Ca_W_1.out (fun _ h => by cases h))
    have Cb_R1_0 := Lib.hid (hI.cell Cb_W_0.out (fun _ h => by cases h))
    have Cb_R1_1 := Lib.hid (hI.cell Cb_W_1.out (fun _ h => by cases h))
    obtain ⟨pR15, rfl, hkR15, -⟩ := r6
    obtain ⟨qR15, uR15, hqR15, -, hcR15, hrR15⟩ := r7
    rw [hkR15] at hqR15
    injection hqR15 with hqR15
    subst hqR15
    subst hrR15
    have CR15_R1_0 := Lib.hid (hcR15 0 _ rfl)
    have CR15_R1_1 := Lib.hid (hcR15 1 _ rfl)
    clear hcR15 hkR15
    subst r8
    have hBR1 := hI.below
    have HCR1 := hI.next (Ctx.ok_none hb0)
    clear hI
    go_upto_region 2 with (fail)
    refine box_plan0 (c := ⟨w, wR1, (fun _ => none)⟩) HCR1 [[], [(17, 0)], [(18, 1)], [(16, 2)], [(16, 2)], [(19, 3)], [(20, 4)]] [(17, 0), (18, 1), (16, 2), (19, 3), (20, 4), (7, 5), (8, 6)] [
        (fun v _ _ => v = .agg #[.int .i64 xa, .int .i64 ya]),
        NrR (xa * xa + ya * ya),
        NrR (xa * xa + ya * ya),
        FlI (xa * xa + ya * ya),
        (fun v _ _ => v = .int .i64 0),
        FlI (xa * xa + ya * ya),
        (fun v _ _ => v = .int .i64 0)
      ] (fun _ => none) (by kernel_rfl) (by kernel_rfl) ⟨stab_eq, stab_firm (nrR_firm _), stab_firm (nrR_firm _), stab_firm (flI_firm _), stab_eq, stab_firm (flI_firm _), stab_eq, trivial⟩ ?steps ?fin
    case steps =>
      refine ⟨?_, ?_, ?_, ?_, ?_, ?_, ?_, trivial⟩
      · intro vs g w2 hI hF hR K hK
        simp only [Facts, fill, Act.put, z1, z2, z3, z4, z5, Nat.reduceAdd] at hF hR hK ⊢
        have k0 := hI.cell Ca_R1_0.out (fun _ h => by cases h)
        have k1 := hI.cell Ca_R1_1.out (fun _ h => by cases h)
        go_simp
        exact hK _ _ _ hI (Step.refl hI) rfl
      · intro vs g w2 hI hF hR K hK
        simp only [Facts, fill, Act.put, z1, z2, z3, z4, z5, Nat.reduceAdd] at hF hR hK ⊢
        obtain ⟨r0, -⟩ := hR
        generalize vs 0 = x0 at *
        subst r0
        go_simp
        refine (gPlNorm hI Ha.out).mono ?_
        rintro e w3 ⟨v3, rfl, hv, hb⟩
        exact hK _ _ _ (hI.call hb) (Step.call hI hb) hv
      · intro vs g w2 hI hF hR K hK
        simp only [Facts, fill, Act.put, z1, z2, z3, z4, z5, Nat.reduceAdd] at hF hR hK ⊢
        obtain ⟨r1, -⟩ := hR
        generalize vs 1 = x1 at *
        go_simp
        exact hK _ _ _ hI (Step.refl hI) r1
      · intro vs g w2 hI hF hR K hK
        simp only [Facts, fill, Act.put, z1, z2, z3, z4, z5, Nat.reduceAdd] at hF hR hK ⊢
        obtain ⟨r2, -⟩ := hR
        generalize vs 2 = x2 at *
        obtain ⟨rr3, rfl, hr3⟩ := r2
        go_simp
        exact hK _ _ _ hI (Step.refl hI) ⟨_, rfl, hr3⟩
      · intro vs g w2 hI hF hR K hK
        simp only [Facts, fill, Act.put, z1, z2, z3, z4, z5, Nat.reduceAdd] at hF hR hK ⊢
        obtain ⟨r2, -⟩ := hR
        generalize vs 2 = x2 at *
        obtain ⟨rr4, rfl, hr4⟩ := r2
        go_simp
        exact hK _ _ _ hI (Step.refl hI) rfl
      · intro vs g w2 hI hF hR K hK
        simp only [Facts, fill, Act.put, z1, z2, z3, z4, z5, Nat.reduceAdd] at hF hR hK ⊢
        obtain ⟨r3, -⟩ := hR
        generalize vs 3 = x3 at *
        go_simp
        exact hK _ _ _ hI (Step.refl hI) r3
      · intro vs g w2 hI hF hR K hK
        simp only [Facts, fill, Act.put, z1, z2, z3, z4, z5, Nat.reduceAdd] at hF hR hK ⊢
        obtain ⟨r4, -⟩ := hR
        generalize vs 4 = x4 at *
        subst r4
        go_simp
        exact hK _ _ _ hI (Step.refl hI) rfl
    case fin =>
      intro vs g wR2 hI hR
      have r5 := hR 5 (by decide)
      have r6 := hR 6 (by decide)
      simp only [fill, Act.put, z1, z2, z3, z4, z5] at r5 r6 ⊢
      clear hR
      generalize vs 5 = x5 at *
      generalize vs 6 = x6 at *
      have Ca_R2_0 := Lib.hid (hI.cell Ca_R1_0.out (fun _ h => by cases h))
      have Ca_R2_1 := Lib.hid (hI.cell Ca_R1_1.out (fun _ h => by cases h))
      have Cb_R2_0 := Lib.hid (hI.cell Cb_R1_0.out (fun _ h => by cases h))
      have Cb_R2_1 := Lib.hid (hI.cell Cb_R1_1.out (fun _ h => by cases h))
      have CR15_R2_0 := Lib.hid (hI.cell CR15_R1_0.out (fun _ h => by cases h))
      have CR15_R2_1 := Lib.hid (hI.cell CR15_R1_1.out (fun _ h => by cases h))
      have qfR27 := r5
      obtain ⟨fvR27, rfl, -⟩ := flI_open r5
      have FR27_R2_0 := Lib.hid ((flI_firm _) _ _ _ _ _ qfR27 hI.back)
      clear qfR27
      subst r6
      have hBR2 := hI.below
      have HCR2 := hI.next HCR1
      clear hI
      go_upto_region 3 with (fail)
      refine box_plan0 (c := ⟨w, wR2, (fun _ => none)⟩) HCR2 [[], [(21, 0)], [(22, 1)]] [(21, 0), (22, 1), (9, 2)] [
          (fun v _ _ => v = .agg #[.int .i64 xa, .int .i64 ya]),
          (fun v _ _ => v = .bool true),
          (fun v _ _ => v = .bool true)
        ] (fun _ => none) (by kernel_rfl) (by kernel_rfl) ⟨stab_eq, stab_eq, stab_eq, trivial⟩ ?steps ?fin
      case steps =>
        refine ⟨?_, ?_, ?_, trivial⟩
        · intro vs g w2 hI hF hR K hK
          simp only [Facts, fill, Act.put, z1, z2, z3, z4, z5, Nat.reduceAdd] at hF hR hK ⊢
          have k0 := hI.cell Ca_R2_0.out (fun _ h => by cases h)
          have k1 := hI.cell Ca_R2_1.out (fun _ h => by cases h)
          go_simp
          exact hK _ _ _ hI (Step.refl hI) rfl
        · intro vs g w2 hI hF hR K hK
          simp only [Facts, fill, Act.put, z1, z2, z3, z4, z5, Nat.reduceAdd] at hF hR hK ⊢
          obtain ⟨r0, -⟩ := hR
          generalize vs 0 = x0 at *
          subst r0
          go_simp
          refine (gRef9Small hI Ha.out).mono ?_
          rintro e w3 ⟨v3, rfl, hv, hb⟩
          exact hK _ _ _ (hI.call hb) (Step.call hI hb) hv
        · intro vs g w2 hI hF hR K hK
          simp only [Facts, fill, Act.put, z1, z2, z3, z4, z5, Nat.reduceAdd] at hF hR hK ⊢
          obtain ⟨r1, -⟩ := hR
          generalize vs 1 = x1 at *
          subst r1
          go_simp
          exact hK _ _ _ hI (Step.refl hI) rfl
      case fin =>
        intro vs g wR3 hI hR
        have r2 := hR 2 (by decide)
        simp only [fill, Act.put, z1, z2, z3, z4, z5] at r2 ⊢
        clear hR
        generalize vs 2 = x2 at *
        have Ca_R3_0 := Lib.hid (hI.cell Ca_R2_0.out (fun _ h => by cases h))
        have Ca_R3_1 := Lib.hid (hI.cell Ca_R2_1.out (fun _ h => by cases h))
        have Cb_R3_0 := Lib.hid (hI.cell Cb_R2_0.out (fun _ h => by cases h))
        have Cb_R3_1 := Lib.hid (hI.cell Cb_R2_1.out (fun _ h => by cases h))
        have CR15_R3_0 := Lib.hid (hI.cell CR15_R2_0.out (fun _ h => by cases h))
        have CR15_R3_1 := Lib.hid (hI.cell CR15_R2_1.out (fun _ h => by cases h))
        have FR27_R3_0 := Lib.hid ((flI_firm _) _ _ _ _ _ FR27_R2_0.out hI.carry)
        subst r2
        have hBR3 := hI.below
        have HCR3 := hI.next HCR2
        clear hI
        go_upto_region 4 with (fail)
        refine box_plan0 (c := ⟨w, wR3, (fun _ => none)⟩) HCR3 [[], [], [(24, 1)], [(23, 0), (25, 2)]] [(23, 0), (24, 1), (25, 2), (26, 3)] [
            (fun v _ _ => v = .bool true),
            (fun v _ _ => v = .agg #[.int .i64 xa, .int .i64 ya]),
            (fun v _ _ => v = .bool true),
            (fun v _ _ => v = .bool false)
          ] (fun _ => none) (by kernel_rfl) (by kernel_rfl) ⟨stab_eq, stab_eq, stab_eq, stab_eq, trivial⟩ ?steps ?fin
        case steps =>
          refine ⟨?_, ?_, ?_, ?_, trivial⟩
          · intro vs g w2 hI hF hR K hK
            simp only [Facts, fill, Act.put, z1, z2, z3, z4, z5, Nat.reduceAdd] at hF hR hK ⊢
            go_simp
            exact hK _ _ _ hI (Step.refl hI) rfl
          · intro vs g w2 hI hF hR K hK
            simp only [Facts, fill, Act.put, z1, z2, z3, z4, z5, Nat.reduceAdd] at hF hR hK ⊢
            have k0 := hI.cell Ca_R3_0.out (fun _ h => by cases h)
            have k1 := hI.cell Ca_R3_1.out (fun _ h => by cases h)
            go_simp
            exact hK _ _ _ hI (Step.refl hI) rfl
          · intro vs g w2 hI hF hR K hK
            simp only [Facts, fill, Act.put, z1, z2, z3, z4, z5, Nat.reduceAdd] at hF hR hK ⊢
            obtain ⟨r1, -⟩ := hR
            generalize vs 1 = x1 at *
            subst r1
            go_simp
            refine (gPlSmall hI (by first | assumption | (unfold S; decide) | exact Bd.s (by first | assumption | exact trX_bd bxa bya | exact trY_bd bxa bya | exact Bd.neg (tmod4_bd _)) (by decide)) (by first | assumption | (unfold S; decide) | exact Bd.s (by first | assumption | exact trX_bd bxa bya | exact trY_bd bxa bya | exact Bd.neg (tmod4_bd _)) (by decide)) Ha.out).mono ?_
            rintro e w3 ⟨v3, rfl, hv, hb⟩
            exact hK _ _ _ (hI.call hb) (Step.call hI hb) hv
          · intro vs g w2 hI hF hR K hK
            simp only [Facts, fill, Act.put, z1, z2, z3, z4, z5, Nat.reduceAdd] at hF hR hK ⊢
            obtain ⟨r0, r2, -⟩ := hR
            generalize vs 0 = x0, vs 2 = x2 at *
            subst r0 r2
            go_simp
            exact hK _ _ _ hI (Step.refl hI) rfl
        case fin =>
          intro vs g wR4 hI hR
          have r3 := hR 3 (by decide)
          simp only [fill, Act.put, z1, z2, z3, z4, z5] at r3 ⊢
          clear hR
          generalize vs 3 = x3 at *
          have Ca_R4_0 := Lib.hid (hI.cell Ca_R3_0.out (fun _ h => by cases h))
          have Ca_R4_1 := Lib.hid (hI.cell Ca_R3_1.out (fun _ h => by cases h))
          have Cb_R4_0 := Lib.hid (hI.cell Cb_R3_0.out (fun _ h => by cases h))
          have Cb_R4_1 := Lib.hid (hI.cell Cb_R3_1.out (fun _ h => by cases h))
          have CR15_R4_0 := Lib.hid (hI.cell CR15_R3_0.out (fun _ h => by cases h))
          have CR15_R4_1 := Lib.hid (hI.cell CR15_R3_1.out (fun _ h => by cases h))
          have FR27_R4_0 := Lib.hid ((flI_firm _) _ _ _ _ _ FR27_R3_0.out hI.carry)
          subst r3
          have hBR4 := hI.below
          have HCR4 := hI.next HCR3
          clear hI
          go_upto_region 6 with (fail)
          refine box_plan0 (c := ⟨w, wR4, (fun _ => none)⟩) HCR4 [[], [(27, 0)], [(28, 1)], [(29, 2)], [(29, 2), (30, 3)], [(29, 2), (31, 4)], [(32, 5)], [(32, 5), (33, 6)], [(29, 2), (32, 5), (34, 7)], [(29, 2), (35, 8)], [(36, 9)], [(37, 10)], [(37, 10), (38, 11)], [(39, 12)], [(39, 12), (40, 13)], [(39, 12), (41, 14)], [(42, 15)], [(42, 15)], [(42, 15), (44, 17)], [(42, 15), (45, 18)], [(42, 15), (43, 16), (46, 19)], [(39, 12), (42, 15), (47, 20)], [(37, 10), (39, 12), (48, 21)], [(37, 10), (49, 22)]] [(27, 0), (28, 1), (29, 2), (30, 3), (31, 4), (32, 5), (33, 6), (34, 7), (35, 8), (36, 9), (37, 10), (38, 11), (39, 12), (40, 13), (41, 14), (42, 15), (43, 16), (44, 17), (45, 18), (46, 19), (47, 20), (48, 21), (49, 22), (50, 23)] [
              (fun v _ _ => v = .bool true),
              (fun v _ _ => v = .bool false),
              (fun v _ _ => v = .bool false),
              (fun v _ _ => v = undef),
              (fun v _ _ => v = undef),
              (fun v _ _ => v = undef),
              (fun v _ _ => v = undef),
              (fun v _ _ => v = undef),
              (fun v _ _ => v = undef),
              (fun v _ _ => v = .bool false),
              (fun v _ _ => v = .bool false),
              (fun v _ _ => v = .bool true),
              (fun v _ _ => v = .bool true),
              (fun v _ _ => v = .int .i64 0),
              (fun v _ _ => v = .bool false),
              (fun v _ _ => v = .bool false),
              (fun v _ _ => v = .float .f64 fvR27),
              (fun v _ _ => v = .agg #[.int .i64 xa, .int .i64 ya]),
              (fun v _ _ => v = .int .i64 (xa * xa + ya * ya)),
              (fun v _ _ => v = .float .f64 (floatOfInt .f64 (xa * xa + ya * ya))),
              (fun v _ _ => v = .bool false),
              (fun v _ _ => v = .bool false),
              (fun v _ _ => v = .bool false),
              (fun v _ _ => v = .bool false)
            ] (fun _ => none) (by kernel_rfl) (by kernel_rfl) ⟨stab_eq, stab_eq, stab_eq, stab_eq, stab_eq, stab_eq, stab_eq, stab_eq, stab_eq, stab_eq, stab_eq, stab_eq, stab_eq, stab_eq, stab_eq, stab_eq, stab_eq, stab_eq, stab_eq, stab_eq, stab_eq, stab_eq, stab_eq, stab_eq, trivial⟩ ?steps ?fin
          case steps =>
            refine ⟨?_, ?_, ?_, ?_, ?_, ?_, ?_, ?_, ?_, ?_, ?_, ?_, ?_, ?_, ?_, ?_, ?_, ?_, ?_, ?_, ?_, ?_, ?_, ?_, trivial⟩
            · intro vs g w2 hI hF hR K hK
              simp only [Facts, fill, Act.put, z1, z2, z3, z4, z5, Nat.reduceAdd] at hF hR hK ⊢
              go_simp
              exact hK _ _ _ hI (Step.refl hI) rfl
            · intro vs g w2 hI hF hR K hK
              simp only [Facts, fill, Act.put, z1, z2, z3, z4, z5, Nat.reduceAdd] at hF hR hK ⊢
              obtain ⟨r0, -⟩ := hR
              generalize vs 0 = x0 at *
              subst r0
              go_simp
              exact hK _ _ _ hI (Step.refl hI) rfl
            · intro vs g w2 hI hF hR K hK
              simp only [Facts, fill, Act.put, z1, z2, z3, z4, z5, Nat.reduceAdd] at hF hR hK ⊢
              obtain ⟨r1, -⟩ := hR
              generalize vs 1 = x1 at *
              subst r1
              go_simp
              exact hK _ _ _ hI (Step.refl hI) rfl
            · intro vs g w2 hI hF hR K hK
              simp only [Facts, fill, Act.put, z1, z2, z3, z4, z5, Nat.reduceAdd] at hF hR hK ⊢
              obtain ⟨r2, -⟩ := hR
              generalize vs 2 = x2 at *
              subst r2
              go_simp
              exact hK _ _ _ hI (Step.refl hI) rfl
            · intro vs g w2 hI hF hR K hK
              simp only [Facts, fill, Act.put, z1, z2, z3, z4, z5, Nat.reduceAdd] at hF hR hK ⊢
              obtain ⟨r2, r3, -⟩ := hR
              generalize vs 2 = x2, vs 3 = x3 at *
              subst r2 r3
              go_simp
              exact hK _ _ _ hI (Step.refl hI) rfl
            · intro vs g w2 hI hF hR K hK
              simp only [Facts, fill, Act.put, z1, z2, z3, z4, z5, Nat.reduceAdd] at hF hR hK ⊢
              obtain ⟨r2, r4, -⟩ := hR
              generalize vs 2 = x2, vs 4 = x4 at *
              subst r2 r4
              go_simp
              exact hK _ _ _ hI (Step.refl hI) rfl
            · intro vs g w2 hI hF hR K hK
              simp only [Facts, fill, Act.put, z1, z2, z3, z4, z5, Nat.reduceAdd] at hF hR hK ⊢
              obtain ⟨r5, -⟩ := hR
              generalize vs 5 = x5 at *
              subst r5
              go_simp
              exact hK _ _ _ hI (Step.refl hI) rfl
            · intro vs g w2 hI hF hR K hK
              simp only [Facts, fill, Act.put, z1, z2, z3, z4, z5, Nat.reduceAdd] at hF hR hK ⊢
              obtain ⟨r5, r6, -⟩ := hR
              generalize vs 5 = x5, vs 6 = x6 at *
              subst r5 r6
              go_simp
              exact hK _ _ _ hI (Step.refl hI) rfl
            · intro vs g w2 hI hF hR K hK
              simp only [Facts, fill, Act.put, z1, z2, z3, z4, z5, Nat.reduceAdd] at hF hR hK ⊢
              obtain ⟨r2, r5, r7, -⟩ := hR
              generalize vs 2 = x2, vs 5 = x5, vs 7 = x7 at *
              subst r2 r5 r7
              go_simp
              exact hK _ _ _ hI (Step.refl hI) rfl
            · intro vs g w2 hI hF hR K hK
              simp only [Facts, fill, Act.put, z1, z2, z3, z4, z5, Nat.reduceAdd] at hF hR hK ⊢
              obtain ⟨r2, r8, -⟩ := hR
              generalize vs 2 = x2, vs 8 = x8 at *
              subst r2 r8
              go_simp
              exact hK _ _ _ hI (Step.refl hI) rfl
            · intro vs g w2 hI hF hR K hK
              simp only [Facts, fill, Act.put, z1, z2, z3, z4, z5, Nat.reduceAdd] at hF hR hK ⊢
              obtain ⟨r9, -⟩ := hR
              generalize vs 9 = x9 at *
              subst r9
              go_simp
              exact hK _ _ _ hI (Step.refl hI) rfl
            · intro vs g w2 hI hF hR K hK
              simp only [Facts, fill, Act.put, z1, z2, z3, z4, z5, Nat.reduceAdd] at hF hR hK ⊢
              obtain ⟨r10, -⟩ := hR
              generalize vs 10 = x10 at *
              subst r10
              go_simp
              exact hK _ _ _ hI (Step.refl hI) rfl
            · intro vs g w2 hI hF hR K hK
              simp only [Facts, fill, Act.put, z1, z2, z3, z4, z5, Nat.reduceAdd] at hF hR hK ⊢
              obtain ⟨r10, r11, -⟩ := hR
              generalize vs 10 = x10, vs 11 = x11 at *
              subst r10 r11
              go_simp
              exact hK _ _ _ hI (Step.refl hI) rfl
            · intro vs g w2 hI hF hR K hK
              simp only [Facts, fill, Act.put, z1, z2, z3, z4, z5, Nat.reduceAdd] at hF hR hK ⊢
              obtain ⟨r12, -⟩ := hR
              generalize vs 12 = x12 at *
              subst r12
              go_simp
              exact hK _ _ _ hI (Step.refl hI) rfl
            · intro vs g w2 hI hF hR K hK
              simp only [Facts, fill, Act.put, z1, z2, z3, z4, z5, Nat.reduceAdd] at hF hR hK ⊢
              obtain ⟨r12, r13, -⟩ := hR
              generalize vs 12 = x12, vs 13 = x13 at *
              subst r12 r13
              go_simp
              exact hK _ _ _ hI (Step.refl hI) rfl
            · intro vs g w2 hI hF hR K hK
              simp only [Facts, fill, Act.put, z1, z2, z3, z4, z5, Nat.reduceAdd] at hF hR hK ⊢
              obtain ⟨r12, r14, -⟩ := hR
              generalize vs 12 = x12, vs 14 = x14 at *
              subst r12 r14
              go_simp
              exact hK _ _ _ hI (Step.refl hI) rfl
            · intro vs g w2 hI hF hR K hK
              simp only [Facts, fill, Act.put, z1, z2, z3, z4, z5, Nat.reduceAdd] at hF hR hK ⊢
              obtain ⟨r15, -⟩ := hR
              generalize vs 15 = x15 at *
              subst r15
              go_simp
              exact hK _ _ _ hI (Step.refl hI) rfl
            · intro vs g w2 hI hF hR K hK
              simp only [Facts, fill, Act.put, z1, z2, z3, z4, z5, Nat.reduceAdd] at hF hR hK ⊢
              obtain ⟨r15, -⟩ := hR
              generalize vs 15 = x15 at *
              subst r15
              have k0 := hI.cell Ca_R4_0.out (fun _ h => by cases h)
              have k1 := hI.cell Ca_R4_1.out (fun _ h => by cases h)
              go_simp
              exact hK _ _ _ hI (Step.refl hI) rfl
            · intro vs g w2 hI hF hR K hK
              simp only [Facts, fill, Act.put, z1, z2, z3, z4, z5, Nat.reduceAdd] at hF hR hK ⊢
              obtain ⟨r15, r17, -⟩ := hR
              generalize vs 15 = x15, vs 17 = x17 at *
              subst r15 r17
              go_simp
              refine (gRef9Norm hI (small_bd Ha.out).1 (small_bd Ha.out).2).mono ?_
              rintro e w3 ⟨v3, rfl, hv, hb⟩
              exact hK _ _ _ (hI.call hb) (Step.call hI hb) hv
            · intro vs g w2 hI hF hR K hK
              simp only [Facts, fill, Act.put, z1, z2, z3, z4, z5, Nat.reduceAdd] at hF hR hK ⊢
              obtain ⟨r15, r18, -⟩ := hR
              generalize vs 15 = x15, vs 18 = x18 at *
              subst r15 r18
              go_simp
              exact hK _ _ _ hI (Step.refl hI) rfl
            · intro vs g w2 hI hF hR K hK
              simp only [Facts, fill, Act.put, z1, z2, z3, z4, z5, Nat.reduceAdd] at hF hR hK ⊢
              obtain ⟨r15, r16, r19, -⟩ := hR
              generalize vs 15 = x15, vs 16 = x16, vs 19 = x19 at *
              subst r15 r16 r19
              have hz := fl_eq (flI_fi FR27_R4_0.out) (fiB (Bd.add (Bd.mul bxa bxa) (Bd.mul bya bya)) (by decide)) (by first | rfl | exact tr_norm _ _ _ | grind)
              go_simp
              exact hK _ _ _ hI (Step.refl hI) rfl
            · intro vs g w2 hI hF hR K hK
              simp only [Facts, fill, Act.put, z1, z2, z3, z4, z5, Nat.reduceAdd] at hF hR hK ⊢
              obtain ⟨r12, r15, r20, -⟩ := hR
              generalize vs 12 = x12, vs 15 = x15, vs 20 = x20 at *
              subst r12 r15 r20
              go_simp
              exact hK _ _ _ hI (Step.refl hI) rfl
            · intro vs g w2 hI hF hR K hK
              simp only [Facts, fill, Act.put, z1, z2, z3, z4, z5, Nat.reduceAdd] at hF hR hK ⊢
              obtain ⟨r10, r12, r21, -⟩ := hR
              generalize vs 10 = x10, vs 12 = x12, vs 21 = x21 at *
              subst r10 r12 r21
              go_simp
              exact hK _ _ _ hI (Step.refl hI) rfl
            · intro vs g w2 hI hF hR K hK
              simp only [Facts, fill, Act.put, z1, z2, z3, z4, z5, Nat.reduceAdd] at hF hR hK ⊢
              obtain ⟨r10, r22, -⟩ := hR
              generalize vs 10 = x10, vs 22 = x22 at *
              subst r10 r22
              go_simp
              exact hK _ _ _ hI (Step.refl hI) rfl
          case fin =>
            intro vs g wR6 hI hR
            have r23 := hR 23 (by decide)
            simp only [fill, Act.put, z1, z2, z3, z4, z5] at r23 ⊢
            clear hR
            generalize vs 23 = x23 at *
            have Ca_R6_0 := Lib.hid (hI.cell Ca_R4_0.out (fun _ h => by cases h))
            have Ca_R6_1 := Lib.hid (hI.cell Ca_R4_1.out (fun _ h => by cases h))
            have Cb_R6_0 := Lib.hid (hI.cell Cb_R4_0.out (fun _ h => by cases h))
            have Cb_R6_1 := Lib.hid (hI.cell Cb_R4_1.out (fun _ h => by cases h))
            have CR15_R6_0 := Lib.hid (hI.cell CR15_R4_0.out (fun _ h => by cases h))
            have CR15_R6_1 := Lib.hid (hI.cell CR15_R4_1.out (fun _ h => by cases h))
            have FR27_R6_0 := Lib.hid ((flI_firm _) _ _ _ _ _ FR27_R4_0.out hI.carry)
            subst r23
            have hBR6 := hI.below
            have HCR6 := hI.next HCR4
            clear hI
            go_upto_region 8 with (fail)
            refine box_plan0 (c := ⟨w, wR6, (fun _ => none)⟩) HCR6 [[], [(51, 0)], [(52, 1)], [(53, 2)], [(53, 2), (54, 3)], [(53, 2), (55, 4)], [(53, 2), (56, 5)]] [(51, 0), (52, 1), (53, 2), (54, 3), (55, 4), (56, 5), (57, 6)] [
                (fun v _ _ => v = .bool true),
                (fun v _ _ => v = .bool false),
                (fun v _ _ => v = .bool false),
                (fun v _ _ => v = .agg #[.int .i64 xb, .int .i64 yb]),
                (fun v _ _ => v = .bool true),
                (fun v _ _ => v = .bool false),
                (fun v _ _ => v = .bool false)
              ] (fun _ => none) (by kernel_rfl) (by kernel_rfl) ⟨stab_eq, stab_eq, stab_eq, stab_eq, stab_eq, stab_eq, stab_eq, trivial⟩ ?steps ?fin
            case steps =>
              refine ⟨?_, ?_, ?_, ?_, ?_, ?_, ?_, trivial⟩
              · intro vs g w2 hI hF hR K hK
                simp only [Facts, fill, Act.put, z1, z2, z3, z4, z5, Nat.reduceAdd] at hF hR hK ⊢
                go_simp
                exact hK _ _ _ hI (Step.refl hI) rfl
              · intro vs g w2 hI hF hR K hK
                simp only [Facts, fill, Act.put, z1, z2, z3, z4, z5, Nat.reduceAdd] at hF hR hK ⊢
                obtain ⟨r0, -⟩ := hR
                generalize vs 0 = x0 at *
                subst r0
                go_simp
                exact hK _ _ _ hI (Step.refl hI) rfl
              · intro vs g w2 hI hF hR K hK
                simp only [Facts, fill, Act.put, z1, z2, z3, z4, z5, Nat.reduceAdd] at hF hR hK ⊢
                obtain ⟨r1, -⟩ := hR
                generalize vs 1 = x1 at *
                subst r1
                go_simp
                exact hK _ _ _ hI (Step.refl hI) rfl
              · intro vs g w2 hI hF hR K hK
                simp only [Facts, fill, Act.put, z1, z2, z3, z4, z5, Nat.reduceAdd] at hF hR hK ⊢
                obtain ⟨r2, -⟩ := hR
                generalize vs 2 = x2 at *
                subst r2
                have k0 := hI.cell Cb_R6_0.out (fun _ h => by cases h)
                have k1 := hI.cell Cb_R6_1.out (fun _ h => by cases h)
                go_simp
                exact hK _ _ _ hI (Step.refl hI) rfl
              · intro vs g w2 hI hF hR K hK
                simp only [Facts, fill, Act.put, z1, z2, z3, z4, z5, Nat.reduceAdd] at hF hR hK ⊢
                obtain ⟨r2, r3, -⟩ := hR
                generalize vs 2 = x2, vs 3 = x3 at *
                subst r2 r3
                go_simp
                refine (gRef9Small hI Hb.out).mono ?_
                rintro e w3 ⟨v3, rfl, hv, hb⟩
                exact hK _ _ _ (hI.call hb) (Step.call hI hb) hv
              · intro vs g w2 hI hF hR K hK
                simp only [Facts, fill, Act.put, z1, z2, z3, z4, z5, Nat.reduceAdd] at hF hR hK ⊢
                obtain ⟨r2, r4, -⟩ := hR
                generalize vs 2 = x2, vs 4 = x4 at *
                subst r2 r4
                go_simp
                exact hK _ _ _ hI (Step.refl hI) rfl
              · intro vs g w2 hI hF hR K hK
                simp only [Facts, fill, Act.put, z1, z2, z3, z4, z5, Nat.reduceAdd] at hF hR hK ⊢
                obtain ⟨r2, r5, -⟩ := hR
                generalize vs 2 = x2, vs 5 = x5 at *
                subst r2 r5
                go_simp
                exact hK _ _ _ hI (Step.refl hI) rfl
            case fin =>
              intro vs g wR8 hI hR
              have r6 := hR 6 (by decide)
              simp only [fill, Act.put, z1, z2, z3, z4, z5] at r6 ⊢
              clear hR
              generalize vs 6 = x6 at *
              have Ca_R8_0 := Lib.hid (hI.cell Ca_R6_0.out (fun _ h => by cases h))
              have Ca_R8_1 := Lib.hid (hI.cell Ca_R6_1.out (fun _ h => by cases h))
              have Cb_R8_0 := Lib.hid (hI.cell Cb_R6_0.out (fun _ h => by cases h))
              have Cb_R8_1 := Lib.hid (hI.cell Cb_R6_1.out (fun _ h => by cases h))
              have CR15_R8_0 := Lib.hid (hI.cell CR15_R6_0.out (fun _ h => by cases h))
              have CR15_R8_1 := Lib.hid (hI.cell CR15_R6_1.out (fun _ h => by cases h))
              have FR27_R8_0 := Lib.hid ((flI_firm _) _ _ _ _ _ FR27_R6_0.out hI.carry)
              subst r6
              have hBR8 := hI.below
              have HCR8 := hI.next HCR6
              clear hI
              go_upto_region 10 with (fail)
              refine box_plan (c := ⟨w, wR8, (fun _ => none)⟩) HCR8 (by kernel_rfl) [[], [(68, 0)], [(69, 1)], [(69, 1), (70, 2)], [(69, 1), (71, 3)], [(72, 4)], [(73, 5)], [(73, 5)], [(73, 5)], [(73, 5), (75, 7), (76, 8)], [(73, 5), (74, 6), (77, 9)], [(73, 5), (78, 10)], [(79, 11)]] [(68, 0), (69, 1), (70, 2), (71, 3), (72, 4), (73, 5), (74, 6), (75, 7), (76, 8), (77, 9), (78, 10), (79, 11), (4, 12)] [
                  (fun v _ _ => v = .bool true),
                  (fun v _ _ => v = .bool true),
                  (fun v _ _ => v = .int .i64 0),
                  (fun v _ _ => v = .bool true),
                  (fun v _ _ => v = .bool true),
                  (fun v _ _ => v = .bool true),
                  (fun v _ _ => v = .agg #[.int .i64 (xa * xb - ya * yb), .int .i64 (xa * yb + ya * xb)]),
                  (fun v _ _ => v = .agg #[.int .i64 xa, .int .i64 ya]),
                  (fun v _ _ => v = .agg #[.int .i64 xb, .int .i64 yb]),
                  (fun v _ _ => v = .agg #[.int .i64 (xa * xb - ya * yb), .int .i64 (xa * yb + ya * xb)]),
                  (fun v _ _ => v = .bool true),
                  (fun v _ _ => v = .bool true),
                  (fun v _ _ => v = .bool true)
                ] (fun _ => none) (by kernel_rfl) (by kernel_rfl) ⟨stab_eq, stab_eq, stab_eq, stab_eq, stab_eq, stab_eq, stab_eq, stab_eq, stab_eq, stab_eq, stab_eq, stab_eq, stab_eq, trivial⟩ ?steps ?fin
              case steps =>
                refine ⟨?_, ?_, ?_, ?_, ?_, ?_, ?_, ?_, ?_, ?_, ?_, ?_, ?_, trivial⟩
                · intro vs g w2 hI hF hR K hK
                  simp only [Facts, fill, Act.put, z1, z2, z3, z4, z5, Nat.reduceAdd] at hF hR hK ⊢
                  go_simp
                  refine (gAlive9 hI).mono ?_
                  rintro e w3 ⟨v3, rfl, hv, hb⟩
                  exact hK _ _ _ (hI.call hb) (Step.call hI hb) hv
                · intro vs g w2 hI hF hR K hK
                  simp only [Facts, fill, Act.put, z1, z2, z3, z4, z5, Nat.reduceAdd] at hF hR hK ⊢
                  obtain ⟨r0, -⟩ := hR
                  generalize vs 0 = x0 at *
                  subst r0
                  go_simp
                  exact hK _ _ _ hI (Step.refl hI) rfl
                · intro vs g w2 hI hF hR K hK
                  simp only [Facts, fill, Act.put, z1, z2, z3, z4, z5, Nat.reduceAdd] at hF hR hK ⊢
                  obtain ⟨r1, -⟩ := hR
                  generalize vs 1 = x1 at *
                  subst r1
                  go_simp
                  exact hK _ _ _ hI (Step.refl hI) rfl
                · intro vs g w2 hI hF hR K hK
                  simp only [Facts, fill, Act.put, z1, z2, z3, z4, z5, Nat.reduceAdd] at hF hR hK ⊢
                  obtain ⟨r1, r2, -⟩ := hR
                  generalize vs 1 = x1, vs 2 = x2 at *
                  subst r1 r2
                  go_simp
                  exact hK _ _ _ hI (Step.refl hI) rfl
                · intro vs g w2 hI hF hR K hK
                  simp only [Facts, fill, Act.put, z1, z2, z3, z4, z5, Nat.reduceAdd] at hF hR hK ⊢
                  obtain ⟨r1, r3, -⟩ := hR
                  generalize vs 1 = x1, vs 3 = x3 at *
                  subst r1 r3
                  go_simp
                  exact hK _ _ _ hI (Step.refl hI) rfl
                · intro vs g w2 hI hF hR K hK
                  simp only [Facts, fill, Act.put, z1, z2, z3, z4, z5, Nat.reduceAdd] at hF hR hK ⊢
                  obtain ⟨r4, -⟩ := hR
                  generalize vs 4 = x4 at *
                  subst r4
                  go_simp
                  exact hK _ _ _ hI (Step.refl hI) rfl
                · intro vs g w2 hI hF hR K hK
                  simp only [Facts, fill, Act.put, z1, z2, z3, z4, z5, Nat.reduceAdd] at hF hR hK ⊢
                  obtain ⟨r5, -⟩ := hR
                  generalize vs 5 = x5 at *
                  subst r5
                  have k0 := hI.cell CR15_R8_0.out (fun _ h => by cases h)
                  have k1 := hI.cell CR15_R8_1.out (fun _ h => by cases h)
                  go_simp
                  exact hK _ _ _ hI (Step.refl hI) rfl
                · intro vs g w2 hI hF hR K hK
                  simp only [Facts, fill, Act.put, z1, z2, z3, z4, z5, Nat.reduceAdd] at hF hR hK ⊢
                  obtain ⟨r5, -⟩ := hR
                  generalize vs 5 = x5 at *
                  subst r5
                  have k0 := hI.cell Ca_R8_0.out (fun _ h => by cases h)
                  have k1 := hI.cell Ca_R8_1.out (fun _ h => by cases h)
                  go_simp
                  exact hK _ _ _ hI (Step.refl hI) rfl
                · intro vs g w2 hI hF hR K hK
                  simp only [Facts, fill, Act.put, z1, z2, z3, z4, z5, Nat.reduceAdd] at hF hR hK ⊢
                  obtain ⟨r5, -⟩ := hR
                  generalize vs 5 = x5 at *
                  subst r5
                  have k0 := hI.cell Cb_R8_0.out (fun _ h => by cases h)
                  have k1 := hI.cell Cb_R8_1.out (fun _ h => by cases h)
                  go_simp
                  exact hK _ _ _ hI (Step.refl hI) rfl
                · intro vs g w2 hI hF hR K hK
                  simp only [Facts, fill, Act.put, z1, z2, z3, z4, z5, Nat.reduceAdd] at hF hR hK ⊢
                  obtain ⟨r5, r7, r8, -⟩ := hR
                  generalize vs 5 = x5, vs 7 = x7, vs 8 = x8 at *
                  subst r5 r7 r8
                  go_simp
                  refine (gRef9Product hI (small_bd Ha.out).1 (small_bd Ha.out).2 (small_bd Hb.out).1 (small_bd Hb.out).2).mono ?_
                  rintro e w3 ⟨v3, rfl, hv, hb⟩
                  exact hK _ _ _ (hI.call hb) (Step.call hI hb) hv
                · intro vs g w2 hI hF hR K hK
                  simp only [Facts, fill, Act.put, z1, z2, z3, z4, z5, Nat.reduceAdd] at hF hR hK ⊢
                  obtain ⟨r5, r6, r9, -⟩ := hR
                  generalize vs 5 = x5, vs 6 = x6, vs 9 = x9 at *
                  subst r5 r6 r9
                  have hz0 : ((xa * xb - ya * yb) == (xa * xb - ya * yb)) = true := beq_self_eq_true _
                  have hz1 : ((xa * yb + ya * xb) == (xa * yb + ya * xb)) = true := beq_self_eq_true _
                  go_simp
                  exact hK _ _ _ hI (Step.refl hI) rfl
                · intro vs g w2 hI hF hR K hK
                  simp only [Facts, fill, Act.put, z1, z2, z3, z4, z5, Nat.reduceAdd] at hF hR hK ⊢
                  obtain ⟨r5, r10, -⟩ := hR
                  generalize vs 5 = x5, vs 10 = x10 at *
                  subst r5 r10
                  go_simp
                  exact hK _ _ _ hI (Step.refl hI) rfl
                · intro vs g w2 hI hF hR K hK
                  simp only [Facts, fill, Act.put, z1, z2, z3, z4, z5, Nat.reduceAdd] at hF hR hK ⊢
                  obtain ⟨r11, -⟩ := hR
                  generalize vs 11 = x11 at *
                  subst r11
                  go_simp
                  exact hK _ _ _ hI (Step.refl hI) rfl
              case fin =>
                intro vs g wR10 hI hR
                have r12 := hR 12 (by decide)
                simp only [fill, Act.put, z1, z2, z3, z4, z5] at r12 ⊢
                clear hR
                generalize vs 12 = x12 at *
                have Ca_R10_0 := Lib.hid (hI.cell Ca_R8_0.out (fun _ h => by cases h))
                have Ca_R10_1 := Lib.hid (hI.cell Ca_R8_1.out (fun _ h => by cases h))
                have Cb_R10_0 := Lib.hid (hI.cell Cb_R8_0.out (fun _ h => by cases h))
                have Cb_R10_1 := Lib.hid (hI.cell Cb_R8_1.out (fun _ h => by cases h))
                have CR15_R10_0 := Lib.hid (hI.cell CR15_R8_0.out (fun _ h => by cases h))
                have CR15_R10_1 := Lib.hid (hI.cell CR15_R8_1.out (fun _ h => by cases h))
                have FR27_R10_0 := Lib.hid ((flI_firm _) _ _ _ _ _ FR27_R8_0.out hI.carry)
                subst r12
                have hBR10 := hI.below
                have HCR10 := hI.next HCR8
                clear hI
                go_wp2
                go_ret
                exact ⟨rfl, hBR10⟩
theorem law_planeMultiplies (xa ya xb yb : Int) (w : World) (sxa : S xa) (sya : S ya) (sxb : S xb) (syb : S yb) :
    Calls Try.prog 4 #[.agg #[.int .i64 xa, .int .i64 ya], .agg #[.int .i64 xb, .int .i64 yb]] w fun e w' => e = .returned (.bool true) ∧ Below w.heap.size w w' := by
  rcases ha : smallB xa ya with _ | _
  · exact law9M_F xa ya xb yb sxa sya sxb syb w ha
  · rcases hb : smallB xb yb with _ | _
    · exact law9M_TF xa ya xb yb sxa sya sxb syb w ha hb
    · exact law9M_TT xa ya xb yb sxa sya sxb syb w ha hb
end Go.Proofs.Ythdboeegngcfeaa
