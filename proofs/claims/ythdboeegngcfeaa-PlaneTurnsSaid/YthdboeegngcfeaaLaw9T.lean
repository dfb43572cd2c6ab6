/-
  Law PlaneTurns. (Written by law9.py.)
-/
import Derived.Test.YthdboeegngcfeaaLaw9a
namespace Go.Proofs.Ythdboeegngcfeaa
open Go.RowKit
set_option maxRecDepth 100000
set_option linter.unusedVariables false
set_option linter.unusedSimpArgs false

set_option maxRecDepth 100000 in
set_option maxHeartbeats 4000000 in
theorem law9T_F (xa ya : Int) (tk : Int) (sxa : S xa) (sya : S ya) (w : World) (ha : smallB xa ya = false) (sk : S tk) :
    Calls Try.prog 5 #[.agg #[.int .i64 xa, .int .i64 ya], .int .i64 tk] w fun e w' => e = .returned (.bool true) ∧ Below w.heap.size w w' := by
  have Ha := Lib.hid ha
  clear ha
  obtain ⟨W, hW⟩ : ∃ W, W = w.alloc (.cells #[.int .i64 xa, .int .i64 ya] 23) := ⟨_, rfl⟩
  have hb0 : Below w.heap.size w W := by rw [hW]; exact ((Below.refl _ _).alloc (Nat.le_refl _) _)
  have Ca_W_0 := Lib.hid (show W.cell? ⟨w.heap.size, 0, none⟩ = some (.int .i64 xa) by rw [hW]; simp [go_sem])
  have Ca_W_1 := Lib.hid (show W.cell? ⟨w.heap.size, 1, none⟩ = some (.int .i64 ya) by rw [hW]; simp [go_sem])
  have HW := Lib.hid hW
  clear hW
  go_enter Try.func5, Try.ntmps5
  go_upto_region 1 with (fail)
  rw [← HW.out]
  refine box_plan0 (c := ⟨w, W, (fun _ => none)⟩) (Ctx.ok_none hb0) [[], [], [(10, 0), (11, 1)], [(12, 2)], [(9, 3)], [(9, 3)], [], [(5, 6), (13, 4)], [(14, 5)]] [(10, 0), (11, 1), (12, 2), (9, 3), (13, 4), (14, 5), (5, 6), (6, 8)] [
      (fun v _ _ => v = .agg #[.int .i64 xa, .int .i64 ya]),
      (fun v _ _ => v = .int .i64 tk),
      (fun v _ _ => v = .tuple #[.agg #[.int .i64 0, .int .i64 0], .int .i64 3]),
      (fun v _ _ => v = .tuple #[.agg #[.int .i64 0, .int .i64 0], .int .i64 3]),
      (fun v _ _ => v = .agg #[.int .i64 0, .int .i64 0]),
      (fun v _ _ => v = .int .i64 3),
      PtrR 6 2,
      (fun _ g w => BoxR 6 (fun v _ _ => v = .agg #[.int .i64 0, .int .i64 0]) g w),
      (fun v _ _ => v = .int .i64 3)
    ] (fun i => match i with | 6 => some 7 | _ => none) (by kernel_rfl) (by kernel_rfl) ⟨stab_eq, stab_eq, stab_eq, stab_eq, stab_eq, stab_eq, stab_ptr, stab_box (firm_eq _) rfl, stab_eq, trivial⟩ ?steps ?fin
  case steps =>
    refine ⟨?_, ?_, ?_, ?_, ?_, ?_, ?_, ?_, ?_, trivial⟩
    · intro vs g w2 hI hF hR K hK
      simp only [Facts, fill, Act.put, z1, z2, z3, z4, z5, Nat.reduceAdd] at hF hR hK ⊢
      have k0 := hI.cell Ca_W_0.out (fun _ h => by cases h)
      have k1 := hI.cell Ca_W_1.out (fun _ h => by cases h)
      go_simp
      exact hK _ _ _ hI (Step.refl hI) rfl
    · intro vs g w2 hI hF hR K hK
      simp only [Facts, fill, Act.put, z1, z2, z3, z4, z5, Nat.reduceAdd] at hF hR hK ⊢
      go_simp
      exact hK _ _ _ hI (Step.refl hI) rfl
    · intro vs g w2 hI hF hR K hK
      simp only [Facts, fill, Act.put, z1, z2, z3, z4, z5, Nat.reduceAdd] at hF hR hK ⊢
      obtain ⟨r0, r1, -⟩ := hR
      generalize vs 0 = x0, vs 1 = x1 at *
      subst r0 r1
      go_simp
      refine (gPlTurnNo hI (by first | assumption | (unfold S; decide) | exact Bd.s (by first | assumption | exact trX_bd bxa bya | exact trY_bd bxa bya | exact Bd.neg (tmod4_bd _)) (by decide)) (by first | assumption | (unfold S; decide) | exact Bd.s (by first | assumption | exact trX_bd bxa bya | exact trY_bd bxa bya | exact Bd.neg (tmod4_bd _)) (by decide)) (by first | assumption | (unfold S; decide) | exact Bd.s (by first | assumption | exact trX_bd bxa bya | exact trY_bd bxa bya | exact Bd.neg (tmod4_bd _)) (by decide)) (by simp only [Ha.out, Bool.false_and, Bool.and_false])).mono ?_
      rintro e w3 ⟨v3, rfl, hv, hb⟩
      exact hK _ _ _ (hI.call hb) (Step.call hI hb) hv
    · intro vs g w2 hI hF hR K hK
      simp only [Facts, fill, Act.put, z1, z2, z3, z4, z5, Nat.reduceAdd] at hF hR hK ⊢
      obtain ⟨r2, -⟩ := hR
      generalize vs 2 = x2 at *
      subst r2
      go_simp
      exact hK _ _ _ hI (Step.refl hI) rfl
    · intro vs g w2 hI hF hR K hK
      simp only [Facts, fill, Act.put, z1, z2, z3, z4, z5, Nat.reduceAdd] at hF hR hK ⊢
      obtain ⟨r3, -⟩ := hR
      generalize vs 3 = x3 at *
      subst r3
      go_simp
      exact hK _ _ _ hI (Step.refl hI) rfl
    · intro vs g w2 hI hF hR K hK
      simp only [Facts, fill, Act.put, z1, z2, z3, z4, z5, Nat.reduceAdd] at hF hR hK ⊢
      obtain ⟨r3, -⟩ := hR
      generalize vs 3 = x3 at *
      subst r3
      go_simp
      exact hK _ _ _ hI (Step.refl hI) rfl
    · intro vs g w2 hI hF hR K hK
      simp only [Facts, fill, Act.put, z1, z2, z3, z4, z5, Nat.reduceAdd] at hF hR hK ⊢
      go_simp
      exact hK _ _ _ (hI.alloc _ (hF (by decide)) _) (Step.alloc hI (hF (by decide)) _) ⟨_, rfl, more_at _ _ _, box2' _ _ _ _⟩
    · intro vs g w2 hI hF hR K hK
      simp only [Facts, fill, Act.put, z1, z2, z3, z4, z5, Nat.reduceAdd] at hF hR hK ⊢
      obtain ⟨r6, r4, -⟩ := hR
      generalize vs 6 = x6, vs 4 = x4 at *
      subst r4
      obtain ⟨k, rfl, hk, hbx⟩ := r6
      obtain ⟨⟨u0, k0⟩, f0⟩ := hbx 0 (by decide)
      obtain ⟨⟨u1, k1⟩, f1⟩ := hbx 1 (by decide)
      go_simp
      have ht := (((Touch.refl w2 k).set 0 (.int .i64 0)).set 1 (.int .i64 0))
      exact hK undef _ _ (hI.store (by decide) hk ht) (Step.store hI rfl hk ht) ⟨k, .agg #[.int .i64 0, .int .i64 0], hk, by rw [ht.size]; exact hI.lt _ _ hk, cells2 k0 k1 (.int .i64 0) (.int .i64 0), rfl⟩
    · intro vs g w2 hI hF hR K hK
      simp only [Facts, fill, Act.put, z1, z2, z3, z4, z5, Nat.reduceAdd] at hF hR hK ⊢
      obtain ⟨r5, -⟩ := hR
      generalize vs 5 = x5 at *
      subst r5
      go_simp
      exact hK _ _ _ hI (Step.refl hI) rfl
  case fin =>
    intro vs g wR1 hI hR
    have r6 := hR 6 (by decide)
    have r7 := hR 7 (by decide)
    have r8 := hR 8 (by decide)
    simp only [fill, Act.put, z1, z2, z3, z4, z5] at r6 r7 r8 ⊢
    clear hR
    generalize vs 6 = x6 at *
    generalize vs 7 = x7 at *
    generalize vs 8 = x8 at *
    have Ca_R1_0 := Lib.hid (hI.cell Ca_W_0.out (fun _ h => by cases h))
    have Ca_R1_1 := Lib.hid (hI.cell Ca_W_1.out (fun _ h => by cases h))
    obtain ⟨pR15, rfl, hkR15, -⟩ := r6
    obtain ⟨qR15, uR15, hqR15, -, hcR15, hrR15⟩ := r7
    rw [hkR15] at hqR15
    injection hqR15 with hqR15
    subst hqR15
    subst hrR15
    have CR15_R1_0 := Lib.hid (hcR15 0 _ rfl)
    have CR15_R1_1 := Lib.hid (hcR15 1 _ rfl)
    clear hcR15 hkR15
    subst r8
    have hBR1 := hI.below
    have HCR1 := hI.next (Ctx.ok_none hb0)
    clear hI
    go_upto_region 2 with (fail)
    refine box_plan0 (c := ⟨w, wR1, (fun _ => none)⟩) HCR1 [[], [(15, 0)], [(16, 1)]] [(15, 0), (16, 1), (17, 2)] [
        (fun v _ _ => v = .agg #[.int .i64 xa, .int .i64 ya]),
        (fun v _ _ => v = .bool false),
        (fun v _ _ => v = .bool true)
      ] (fun _ => none) (by kernel_rfl) (by kernel_rfl) ⟨stab_eq, stab_eq, stab_eq, trivial⟩ ?steps ?fin
    case steps =>
      refine ⟨?_, ?_, ?_, trivial⟩
      · intro vs g w2 hI hF hR K hK
        simp only [Facts, fill, Act.put, z1, z2, z3, z4, z5, Nat.reduceAdd] at hF hR hK ⊢
        have k0 := hI.cell Ca_R1_0.out (fun _ h => by cases h)
        have k1 := hI.cell Ca_R1_1.out (fun _ h => by cases h)
        go_simp
        exact hK _ _ _ hI (Step.refl hI) rfl
      · intro vs g w2 hI hF hR K hK
        simp only [Facts, fill, Act.put, z1, z2, z3, z4, z5, Nat.reduceAdd] at hF hR hK ⊢
        obtain ⟨r0, -⟩ := hR
        generalize vs 0 = x0 at *
        subst r0
        go_simp
        refine (gRef9Small hI Ha.out).mono ?_
        rintro e w3 ⟨v3, rfl, hv, hb⟩
        exact hK _ _ _ (hI.call hb) (Step.call hI hb) hv
      · intro vs g w2 hI hF hR K hK
        simp only [Facts, fill, Act.put, z1, z2, z3, z4, z5, Nat.reduceAdd] at hF hR hK ⊢
        obtain ⟨r1, -⟩ := hR
        generalize vs 1 = x1 at *
        subst r1
        go_simp
        exact hK _ _ _ hI (Step.refl hI) rfl
    case fin =>
      intro vs g wR2 hI hR
      have r2 := hR 2 (by decide)
      simp only [fill, Act.put, z1, z2, z3, z4, z5] at r2 ⊢
      clear hR
      generalize vs 2 = x2 at *
      have Ca_R2_0 := Lib.hid (hI.cell Ca_R1_0.out (fun _ h => by cases h))
      have Ca_R2_1 := Lib.hid (hI.cell Ca_R1_1.out (fun _ h => by cases h))
      have CR15_R2_0 := Lib.hid (hI.cell CR15_R1_0.out (fun _ h => by cases h))
      have CR15_R2_1 := Lib.hid (hI.cell CR15_R1_1.out (fun _ h => by cases h))
      subst r2
      have hBR2 := hI.below
      have HCR2 := hI.next HCR1
      clear hI
      go_upto_region 3 with (fail)
      refine box_plan0 (c := ⟨w, wR2, (fun _ => none)⟩) HCR2 [[], [(18, 0)], [(19, 1)], [(19, 1), (20, 2)], [(19, 1), (21, 3)], [(22, 4)], [(23, 5)], [(23, 5)], [(23, 5), (24, 6), (25, 7)], [(23, 5), (26, 8)], [(27, 9)]] [(18, 0), (19, 1), (20, 2), (21, 3), (22, 4), (23, 5), (24, 6), (25, 7), (26, 8), (27, 9), (4, 10)] [
          (fun v _ _ => v = .bool true),
          (fun v _ _ => v = .bool true),
          (fun v _ _ => v = .int .i64 3),
          (fun v _ _ => v = .bool true),
          (fun v _ _ => v = .bool true),
          (fun v _ _ => v = .bool true),
          (fun v _ _ => v = .agg #[.int .i64 0, .int .i64 0]),
          (fun v _ _ => v = .agg #[.int .i64 0, .int .i64 0]),
          (fun v _ _ => v = .bool true),
          (fun v _ _ => v = .bool true),
          (fun v _ _ => v = .bool true)
        ] (fun _ => none) (by kernel_rfl) (by kernel_rfl) ⟨stab_eq, stab_eq, stab_eq, stab_eq, stab_eq, stab_eq, stab_eq, stab_eq, stab_eq, stab_eq, stab_eq, trivial⟩ ?steps ?fin
      case steps =>
        refine ⟨?_, ?_, ?_, ?_, ?_, ?_, ?_, ?_, ?_, ?_, ?_, trivial⟩
        · intro vs g w2 hI hF hR K hK
          simp only [Facts, fill, Act.put, z1, z2, z3, z4, z5, Nat.reduceAdd] at hF hR hK ⊢
          go_simp
          refine (gAlive9 hI).mono ?_
          rintro e w3 ⟨v3, rfl, hv, hb⟩
          exact hK _ _ _ (hI.call hb) (Step.call hI hb) hv
        · intro vs g w2 hI hF hR K hK
          simp only [Facts, fill, Act.put, z1, z2, z3, z4, z5, Nat.reduceAdd] at hF hR hK ⊢
          obtain ⟨r0, -⟩ := hR
          generalize vs 0 = x0 at *
          subst r0
          go_simp
          exact hK _ _ _ hI (Step.refl hI) rfl
        · intro vs g w2 hI hF hR K hK
          simp only [Facts, fill, Act.put, z1, z2, z3, z4, z5, Nat.reduceAdd] at hF hR hK ⊢
          obtain ⟨r1, -⟩ := hR
          generalize vs 1 = x1 at *
          subst r1
          go_simp
          exact hK _ _ _ hI (Step.refl hI) rfl
        · intro vs g w2 hI hF hR K hK
          simp only [Facts, fill, Act.put, z1, z2, z3, z4, z5, Nat.reduceAdd] at hF hR hK ⊢
          obtain ⟨r1, r2, -⟩ := hR
          generalize vs 1 = x1, vs 2 = x2 at *
          subst r1 r2
          go_simp
          exact hK _ _ _ hI (Step.refl hI) rfl
        · intro vs g w2 hI hF hR K hK
          simp only [Facts, fill, Act.put, z1, z2, z3, z4, z5, Nat.reduceAdd] at hF hR hK ⊢
          obtain ⟨r1, r3, -⟩ := hR
          generalize vs 1 = x1, vs 3 = x3 at *
          subst r1 r3
          go_simp
          exact hK _ _ _ hI (Step.refl hI) rfl
        · intro vs g w2 hI hF hR K hK
          simp only [Facts, fill, Act.put, z1, z2, z3, z4, z5, Nat.reduceAdd] at hF hR hK ⊢
          obtain ⟨r4, -⟩ := hR
          generalize vs 4 = x4 at *
          subst r4
          go_simp
          exact hK _ _ _ hI (Step.refl hI) rfl
        · intro vs g w2 hI hF hR K hK
          simp only [Facts, fill, Act.put, z1, z2, z3, z4, z5, Nat.reduceAdd] at hF hR hK ⊢
          obtain ⟨r5, -⟩ := hR
          generalize vs 5 = x5 at *
          subst r5
          have k0 := hI.cell CR15_R2_0.out (fun _ h => by cases h)
          have k1 := hI.cell CR15_R2_1.out (fun _ h => by cases h)
          go_simp
          exact hK _ _ _ hI (Step.refl hI) rfl
        · intro vs g w2 hI hF hR K hK
          simp only [Facts, fill, Act.put, z1, z2, z3, z4, z5, Nat.reduceAdd] at hF hR hK ⊢
          obtain ⟨r5, -⟩ := hR
          generalize vs 5 = x5 at *
          subst r5
          go_simp
          exact hK _ _ _ hI (Step.refl hI) rfl
        · intro vs g w2 hI hF hR K hK
          simp only [Facts, fill, Act.put, z1, z2, z3, z4, z5, Nat.reduceAdd] at hF hR hK ⊢
          obtain ⟨r5, r6, r7, -⟩ := hR
          generalize vs 5 = x5, vs 6 = x6, vs 7 = x7 at *
          subst r5 r6 r7
          have hz0 : (0 == 0) = true := beq_self_eq_true _
          have hz1 : (0 == 0) = true := beq_self_eq_true _
          go_simp
          exact hK _ _ _ hI (Step.refl hI) rfl
        · intro vs g w2 hI hF hR K hK
          simp only [Facts, fill, Act.put, z1, z2, z3, z4, z5, Nat.reduceAdd] at hF hR hK ⊢
          obtain ⟨r5, r8, -⟩ := hR
          generalize vs 5 = x5, vs 8 = x8 at *
          subst r5 r8
          go_simp
          exact hK _ _ _ hI (Step.refl hI) rfl
        · intro vs g w2 hI hF hR K hK
          simp only [Facts, fill, Act.put, z1, z2, z3, z4, z5, Nat.reduceAdd] at hF hR hK ⊢
          obtain ⟨r9, -⟩ := hR
          generalize vs 9 = x9 at *
          subst r9
          go_simp
          exact hK _ _ _ hI (Step.refl hI) rfl
      case fin =>
        intro vs g wR3 hI hR
        have r10 := hR 10 (by decide)
        simp only [fill, Act.put, z1, z2, z3, z4, z5] at r10 ⊢
        clear hR
        generalize vs 10 = x10 at *
        have Ca_R3_0 := Lib.hid (hI.cell Ca_R2_0.out (fun _ h => by cases h))
        have Ca_R3_1 := Lib.hid (hI.cell Ca_R2_1.out (fun _ h => by cases h))
        have CR15_R3_0 := Lib.hid (hI.cell CR15_R2_0.out (fun _ h => by cases h))
        have CR15_R3_1 := Lib.hid (hI.cell CR15_R2_1.out (fun _ h => by cases h))
        subst r10
        have hBR3 := hI.below
        have HCR3 := hI.next HCR2
        clear hI
        go_wp2
        go_ret
        exact ⟨rfl, hBR3⟩
set_option maxRecDepth 100000 in
set_option maxHeartbeats 4000000 in
theorem law9T_T (xa ya : Int) (tk : Int) (sxa : S xa) (sya : S ya) (w : World) (ha : smallB xa ya = true) (sk : S tk) :
    Calls Try.prog 5 #[.agg #[.int .i64 xa, .int .i64 ya], .int .i64 tk] w fun e w' => e = .returned (.bool true) ∧ Below w.heap.size w w' := by
  have Ha := Lib.hid ha
  obtain ⟨bxa, bya⟩ := small_bd ha
  clear ha
  obtain ⟨W, hW⟩ : ∃ W, W = w.alloc (.cells #[.int .i64 xa, .int .i64 ya] 23) := ⟨_, rfl⟩
  have hb0 : Below w.heap.size w W := by rw [hW]; exact ((Below.refl _ _).alloc (Nat.le_refl _) _)
  have Ca_W_0 := Lib.hid (show W.cell? ⟨w.heap.size, 0, none⟩ = some (.int .i64 xa) by rw [hW]; simp [go_sem])
  have Ca_W_1 := Lib.hid (show W.cell? ⟨w.heap.size, 1, none⟩ = some (.int .i64 ya) by rw [hW]; simp [go_sem])
  have HW := Lib.hid hW
  clear hW
  go_enter Try.func5, Try.ntmps5
  go_upto_region 1 with (fail)
  rw [← HW.out]
  refine box_plan0 (c := ⟨w, W, (fun _ => none)⟩) (Ctx.ok_none hb0) [[], [], [(10, 0), (11, 1)], [(12, 2)], [(9, 3)], [(9, 3)], [], [(5, 6), (13, 4)], [(14, 5)]] [(10, 0), (11, 1), (12, 2), (9, 3), (13, 4), (14, 5), (5, 6), (6, 8)] [
      (fun v _ _ => v = .agg #[.int .i64 xa, .int .i64 ya]),
      (fun v _ _ => v = .int .i64 tk),
      (fun v _ _ => v = .tuple #[.agg #[.int .i64 (trX tk xa ya), .int .i64 (trY tk xa ya)], .int .i64 0]),
      (fun v _ _ => v = .tuple #[.agg #[.int .i64 (trX tk xa ya), .int .i64 (trY tk xa ya)], .int .i64 0]),
      (fun v _ _ => v = .agg #[.int .i64 (trX tk xa ya), .int .i64 (trY tk xa ya)]),
      (fun v _ _ => v = .int .i64 0),
      PtrR 6 2,
      (fun _ g w => BoxR 6 (fun v _ _ => v = .agg #[.int .i64 (trX tk xa ya), .int .i64 (trY tk xa ya)]) g w),
      (fun v _ _ => v = .int .i64 0)
    ] (fun i => match i with | 6 => some 7 | _ => none) (by kernel_rfl) (by kernel_rfl) ⟨stab_eq, stab_eq, stab_eq, stab_eq, stab_eq, stab_eq, stab_ptr, stab_box (firm_eq _) rfl, stab_eq, trivial⟩ ?steps ?fin
  case steps =>
    refine ⟨?_, ?_, ?_, ?_, ?_, ?_, ?_, ?_, ?_, trivial⟩
    · intro vs g w2 hI hF hR K hK
      simp only [Facts, fill, Act.put, z1, z2, z3, z4, z5, Nat.reduceAdd] at hF hR hK ⊢
      have k0 := hI.cell Ca_W_0.out (fun _ h => by cases h)
      have k1 := hI.cell Ca_W_1.out (fun _ h => by cases h)
      go_simp
      exact hK _ _ _ hI (Step.refl hI) rfl
    · intro vs g w2 hI hF hR K hK
      simp only [Facts, fill, Act.put, z1, z2, z3, z4, z5, Nat.reduceAdd] at hF hR hK ⊢
      go_simp
      exact hK _ _ _ hI (Step.refl hI) rfl
    · intro vs g w2 hI hF hR K hK
      simp only [Facts, fill, Act.put, z1, z2, z3, z4, z5, Nat.reduceAdd] at hF hR hK ⊢
      obtain ⟨r0, r1, -⟩ := hR
      generalize vs 0 = x0, vs 1 = x1 at *
      subst r0 r1
      go_simp
      refine (gPlTurn hI (by first | assumption | (unfold S; decide) | exact Bd.s (by first | assumption | exact trX_bd bxa bya | exact trY_bd bxa bya | exact Bd.neg (tmod4_bd _)) (by decide)) Ha.out).mono ?_
      rintro e w3 ⟨v3, rfl, hv, hb⟩
      exact hK _ _ _ (hI.call hb) (Step.call hI hb) hv
    · intro vs g w2 hI hF hR K hK
      simp only [Facts, fill, Act.put, z1, z2, z3, z4, z5, Nat.reduceAdd] at hF hR hK ⊢
      obtain ⟨r2, -⟩ := hR
      generalize vs 2 = x2 at *
      subst r2
      go_simp
      exact hK _ _ _ hI (Step.refl hI) rfl
    · intro vs g w2 hI hF hR K hK
      simp only [Facts, fill, Act.put, z1, z2, z3, z4, z5, Nat.reduceAdd] at hF hR hK ⊢
      obtain ⟨r3, -⟩ := hR
      generalize vs 3 = x3 at *
      subst r3
      go_simp
      exact hK _ _ _ hI (Step.refl hI) rfl
    · intro vs g w2 hI hF hR K hK
      simp only [Facts, fill, Act.put, z1, z2, z3, z4, z5, Nat.reduceAdd] at hF hR hK ⊢
      obtain ⟨r3, -⟩ := hR
      generalize vs 3 = x3 at *
      subst r3
      go_simp
      exact hK _ _ _ hI (Step.refl hI) rfl
    · intro vs g w2 hI hF hR K hK
      simp only [Facts, fill, Act.put, z1, z2, z3, z4, z5, Nat.reduceAdd] at hF hR hK ⊢
      go_simp
      exact hK _ _ _ (hI.alloc _ (hF (by decide)) _) (Step.alloc hI (hF (by decide)) _) ⟨_, rfl, more_at _ _ _, box2' _ _ _ _⟩
    · intro vs g w2 hI hF hR K hK
      simp only [Facts, fill, Act.put, z1, z2, z3, z4, z5, Nat.reduceAdd] at hF hR hK ⊢
      obtain ⟨r6, r4, -⟩ := hR
      generalize vs 6 = x6, vs 4 = x4 at *
      subst r4
      obtain ⟨k, rfl, hk, hbx⟩ := r6
      obtain ⟨⟨u0, k0⟩, f0⟩ := hbx 0 (by decide)
      obtain ⟨⟨u1, k1⟩, f1⟩ := hbx 1 (by decide)
      go_simp
      have ht := (((Touch.refl w2 k).set 0 (.int .i64 (trX tk xa ya))).set 1 (.int .i64 (trY tk xa ya)))
      exact hK undef _ _ (hI.store (by decide) hk ht) (Step.store hI rfl hk ht) ⟨k, .agg #[.int .i64 (trX tk xa ya), .int .i64 (trY tk xa ya)], hk, by rw [ht.size]; exact hI.lt _ _ hk, cells2 k0 k1 (.int .i64 (trX tk xa ya)) (.int .i64 (trY tk xa ya)), rfl⟩
    · intro vs g w2 hI hF hR K hK
      simp only [Facts, fill, Act.put, z1, z2, z3, z4, z5, Nat.reduceAdd] at hF hR hK ⊢
      obtain ⟨r5, -⟩ := hR
      generalize vs 5 = x5 at *
      subst r5
      go_simp
      exact hK _ _ _ hI (Step.refl hI) rfl
  case fin =>
    intro vs g wR1 hI hR
    have r6 := hR 6 (by decide)
    have r7 := hR 7 (by decide)
    have r8 := hR 8 (by decide)
    simp only [fill, Act.put, z1, z2, z3, z4, z5] at r6 r7 r8 ⊢
    clear hR
    generalize vs 6 = x6 at *
    generalize vs 7 = x7 at *
    generalize vs 8 = x8 at *
    have Ca_R1_0 := Lib.hid (hI.cell Ca_W_0.out (fun _ h => by cases h))
    have Ca_R1_1 := Lib.hid (hI.cell Ca_W_1.out (fun _ h => by cases h))
    obtain ⟨pR15, rfl, hkR15, -⟩ := r6
    obtain ⟨qR15, uR15, hqR15, -, hcR15, hrR15⟩ := r7
    rw [hkR15] at hqR15
    injection hqR15 with hqR15
    subst hqR15
    subst hrR15
    have CR15_R1_0 := Lib.hid (hcR15 0 _ rfl)
    have CR15_R1_1 := Lib.hid (hcR15 1 _ rfl)
    clear hcR15 hkR15
    subst r8
    have hBR1 := hI.below
    have HCR1 := hI.next (Ctx.ok_none hb0)
    clear hI
    go_upto_region 2 with (fail)
    refine box_plan0 (c := ⟨w, wR1, (fun _ => none)⟩) HCR1 [[], [(15, 0)], [(16, 1)]] [(15, 0), (16, 1), (17, 2)] [
        (fun v _ _ => v = .agg #[.int .i64 xa, .int .i64 ya]),
        (fun v _ _ => v = .bool true),
        (fun v _ _ => v = .bool false)
      ] (fun _ => none) (by kernel_rfl) (by kernel_rfl) ⟨stab_eq, stab_eq, stab_eq, trivial⟩ ?steps ?fin
    case steps =>
      refine ⟨?_, ?_, ?_, trivial⟩
      · intro vs g w2 hI hF hR K hK
        simp only [Facts, fill, Act.put, z1, z2, z3, z4, z5, Nat.reduceAdd] at hF hR hK ⊢
        have k0 := hI.cell Ca_R1_0.out (fun _ h => by cases h)
        have k1 := hI.cell Ca_R1_1.out (fun _ h => by cases h)
        go_simp
        exact hK _ _ _ hI (Step.refl hI) rfl
      · intro vs g w2 hI hF hR K hK
        simp only [Facts, fill, Act.put, z1, z2, z3, z4, z5, Nat.reduceAdd] at hF hR hK ⊢
        obtain ⟨r0, -⟩ := hR
        generalize vs 0 = x0 at *
        subst r0
        go_simp
        refine (gRef9Small hI Ha.out).mono ?_
        rintro e w3 ⟨v3, rfl, hv, hb⟩
        exact hK _ _ _ (hI.call hb) (Step.call hI hb) hv
      · intro vs g w2 hI hF hR K hK
        simp only [Facts, fill, Act.put, z1, z2, z3, z4, z5, Nat.reduceAdd] at hF hR hK ⊢
        obtain ⟨r1, -⟩ := hR
        generalize vs 1 = x1 at *
        subst r1
        go_simp
        exact hK _ _ _ hI (Step.refl hI) rfl
    case fin =>
      intro vs g wR2 hI hR
      have r2 := hR 2 (by decide)
      simp only [fill, Act.put, z1, z2, z3, z4, z5] at r2 ⊢
      clear hR
      generalize vs 2 = x2 at *
      have Ca_R2_0 := Lib.hid (hI.cell Ca_R1_0.out (fun _ h => by cases h))
      have Ca_R2_1 := Lib.hid (hI.cell Ca_R1_1.out (fun _ h => by cases h))
      have CR15_R2_0 := Lib.hid (hI.cell CR15_R1_0.out (fun _ h => by cases h))
      have CR15_R2_1 := Lib.hid (hI.cell CR15_R1_1.out (fun _ h => by cases h))
      subst r2
      have hBR2 := hI.below
      have HCR2 := hI.next HCR1
      clear hI
      go_upto_region 4 with (fail)
      refine box_plan0 (c := ⟨w, wR2, (fun _ => none)⟩) HCR2 [[], [], [(30, 1)], [(31, 2)], [(29, 0), (32, 3)], [(33, 4)], [(28, 5)], [(28, 5)], [], [(7, 8), (34, 6)], [(35, 7)]] [(29, 0), (30, 1), (31, 2), (32, 3), (33, 4), (28, 5), (34, 6), (35, 7), (7, 8), (8, 10)] [
          (fun v _ _ => v = .agg #[.int .i64 (trX tk xa ya), .int .i64 (trY tk xa ya)]),
          (fun v _ _ => v = .int .i64 tk),
          (fun v _ _ => v = .int .i64 (tk.tmod 4)),
          (fun v _ _ => v = .int .i64 (-(tk.tmod 4))),
          (fun v _ _ => v = .tuple #[.agg #[.int .i64 (trX (-(tk.tmod 4)) (trX tk xa ya) (trY tk xa ya)), .int .i64 (trY (-(tk.tmod 4)) (trX tk xa ya) (trY tk xa ya))], .int .i64 0]),
          (fun v _ _ => v = .tuple #[.agg #[.int .i64 (trX (-(tk.tmod 4)) (trX tk xa ya) (trY tk xa ya)), .int .i64 (trY (-(tk.tmod 4)) (trX tk xa ya) (trY tk xa ya))], .int .i64 0]),
          (fun v _ _ => v = .agg #[.int .i64 (trX (-(tk.tmod 4)) (trX tk xa ya) (trY tk xa ya)), .int .i64 (trY (-(tk.tmod 4)) (trX tk xa ya) (trY tk xa ya))]),
          (fun v _ _ => v = .int .i64 0),
          PtrR 8 2,
          (fun _ g w => BoxR 8 (fun v _ _ => v = .agg #[.int .i64 (trX (-(tk.tmod 4)) (trX tk xa ya) (trY tk xa ya)), .int .i64 (trY (-(tk.tmod 4)) (trX tk xa ya) (trY tk xa ya))]) g w),
          (fun v _ _ => v = .int .i64 0)
        ] (fun i => match i with | 8 => some 9 | _ => none) (by kernel_rfl) (by kernel_rfl) ⟨stab_eq, stab_eq, stab_eq, stab_eq, stab_eq, stab_eq, stab_eq, stab_eq, stab_ptr, stab_box (firm_eq _) rfl, stab_eq, trivial⟩ ?steps ?fin
      case steps =>
        refine ⟨?_, ?_, ?_, ?_, ?_, ?_, ?_, ?_, ?_, ?_, ?_, trivial⟩
        · intro vs g w2 hI hF hR K hK
          simp only [Facts, fill, Act.put, z1, z2, z3, z4, z5, Nat.reduceAdd] at hF hR hK ⊢
          have k0 := hI.cell CR15_R2_0.out (fun _ h => by cases h)
          have k1 := hI.cell CR15_R2_1.out (fun _ h => by cases h)
          go_simp
          exact hK _ _ _ hI (Step.refl hI) rfl
        · intro vs g w2 hI hF hR K hK
          simp only [Facts, fill, Act.put, z1, z2, z3, z4, z5, Nat.reduceAdd] at hF hR hK ⊢
          go_simp
          exact hK _ _ _ hI (Step.refl hI) rfl
        · intro vs g w2 hI hF hR K hK
          simp only [Facts, fill, Act.put, z1, z2, z3, z4, z5, Nat.reduceAdd] at hF hR hK ⊢
          obtain ⟨r1, -⟩ := hR
          generalize vs 1 = x1 at *
          subst r1
          have hz : IntKind.i64.wrap (tk.tmod 4) = tk.tmod 4 := (tmod4_bd tk).wrap (by decide)
          go_simp
          exact hK _ _ _ hI (Step.refl hI) rfl
        · intro vs g w2 hI hF hR K hK
          simp only [Facts, fill, Act.put, z1, z2, z3, z4, z5, Nat.reduceAdd] at hF hR hK ⊢
          obtain ⟨r2, -⟩ := hR
          generalize vs 2 = x2 at *
          subst r2
          have hz : IntKind.i64.wrap (-(tk.tmod 4)) = -(tk.tmod 4) := ((tmod4_bd tk)).neg.wrap (by decide)
          go_simp
          exact hK _ _ _ hI (Step.refl hI) rfl
        · intro vs g w2 hI hF hR K hK
          simp only [Facts, fill, Act.put, z1, z2, z3, z4, z5, Nat.reduceAdd] at hF hR hK ⊢
          obtain ⟨r0, r3, -⟩ := hR
          generalize vs 0 = x0, vs 3 = x3 at *
          subst r0 r3
          go_simp
          refine (gPlTurn hI (by first | assumption | (unfold S; decide) | exact Bd.s (by first | assumption | exact trX_bd bxa bya | exact trY_bd bxa bya | exact Bd.neg (tmod4_bd _)) (by decide)) (small_of (Bd.le (trX_bd bxa bya) (by decide)) (Bd.le (trY_bd bxa bya) (by decide)))).mono ?_
          rintro e w3 ⟨v3, rfl, hv, hb⟩
          exact hK _ _ _ (hI.call hb) (Step.call hI hb) hv
        · intro vs g w2 hI hF hR K hK
          simp only [Facts, fill, Act.put, z1, z2, z3, z4, z5, Nat.reduceAdd] at hF hR hK ⊢
          obtain ⟨r4, -⟩ := hR
          generalize vs 4 = x4 at *
          subst r4
          go_simp
          exact hK _ _ _ hI (Step.refl hI) rfl
        · intro vs g w2 hI hF hR K hK
          simp only [Facts, fill, Act.put, z1, z2, z3, z4, z5, Nat.reduceAdd] at hF hR hK ⊢
          obtain ⟨r5, -⟩ := hR
          generalize vs 5 = x5 at *
          subst r5
          go_simp
          exact hK _ _ _ hI (Step.refl hI) rfl
        · intro vs g w2 hI hF hR K hK
          simp only [Facts, fill, Act.put, z1, z2, z3, z4, z5, Nat.reduceAdd] at hF hR hK ⊢
          obtain ⟨r5, -⟩ := hR
          generalize vs 5 = x5 at *
          subst r5
          go_simp
          exact hK _ _ _ hI (Step.refl hI) rfl
        · intro vs g w2 hI hF hR K hK
          simp only [Facts, fill, Act.put, z1, z2, z3, z4, z5, Nat.reduceAdd] at hF hR hK ⊢
          go_simp
          exact hK _ _ _ (hI.alloc _ (hF (by decide)) _) (Step.alloc hI (hF (by decide)) _) ⟨_, rfl, more_at _ _ _, box2' _ _ _ _⟩
        · intro vs g w2 hI hF hR K hK
          simp only [Facts, fill, Act.put, z1, z2, z3, z4, z5, Nat.reduceAdd] at hF hR hK ⊢
          obtain ⟨r8, r6, -⟩ := hR
          generalize vs 8 = x8, vs 6 = x6 at *
          subst r6
          obtain ⟨k, rfl, hk, hbx⟩ := r8
          obtain ⟨⟨u0, k0⟩, f0⟩ := hbx 0 (by decide)
          obtain ⟨⟨u1, k1⟩, f1⟩ := hbx 1 (by decide)
          go_simp
          have ht := (((Touch.refl w2 k).set 0 (.int .i64 (trX (-(tk.tmod 4)) (trX tk xa ya) (trY tk xa ya)))).set 1 (.int .i64 (trY (-(tk.tmod 4)) (trX tk xa ya) (trY tk xa ya))))
          exact hK undef _ _ (hI.store (by decide) hk ht) (Step.store hI rfl hk ht) ⟨k, .agg #[.int .i64 (trX (-(tk.tmod 4)) (trX tk xa ya) (trY tk xa ya)), .int .i64 (trY (-(tk.tmod 4)) (trX tk xa ya) (trY tk xa ya))], hk, by rw [ht.size]; exact hI.lt _ _ hk, cells2 k0 k1 (.int .i64 (trX (-(tk.tmod 4)) (trX tk xa ya) (trY tk xa ya))) (.int .i64 (trY (-(tk.tmod 4)) (trX tk xa ya) (trY tk xa ya))), rfl⟩
        · intro vs g w2 hI hF hR K hK
          simp only [Facts, fill, Act.put, z1, z2, z3, z4, z5, Nat.reduceAdd] at hF hR hK ⊢
          obtain ⟨r7, -⟩ := hR
          generalize vs 7 = x7 at *
          subst r7
          go_simp
          exact hK _ _ _ hI (Step.refl hI) rfl
      case fin =>
        intro vs g wR4 hI hR
        have r8 := hR 8 (by decide)
        have r9 := hR 9 (by decide)
        have r10 := hR 10 (by decide)
        simp only [fill, Act.put, z1, z2, z3, z4, z5] at r8 r9 r10 ⊢
        clear hR
        generalize vs 8 = x8 at *
        generalize vs 9 = x9 at *
        generalize vs 10 = x10 at *
        have Ca_R4_0 := Lib.hid (hI.cell Ca_R2_0.out (fun _ h => by cases h))
        have Ca_R4_1 := Lib.hid (hI.cell Ca_R2_1.out (fun _ h => by cases h))
        have CR15_R4_0 := Lib.hid (hI.cell CR15_R2_0.out (fun _ h => by cases h))
        have CR15_R4_1 := Lib.hid (hI.cell CR15_R2_1.out (fun _ h => by cases h))
        obtain ⟨pR47, rfl, hkR47, -⟩ := r8
        obtain ⟨qR47, uR47, hqR47, -, hcR47, hrR47⟩ := r9
        rw [hkR47] at hqR47
        injection hqR47 with hqR47
        subst hqR47
        subst hrR47
        have CR47_R4_0 := Lib.hid (hcR47 0 _ rfl)
        have CR47_R4_1 := Lib.hid (hcR47 1 _ rfl)
        clear hcR47 hkR47
        subst r10
        have hBR4 := hI.below
        have HCR4 := hI.next HCR2
        clear hI
        go_upto_region 5 with (fail)
        refine box_plan (c := ⟨w, wR4, (fun _ => none)⟩) HCR4 (by kernel_rfl) [[], [(36, 0)], [(37, 1)], [(37, 1), (38, 2)], [(37, 1), (39, 3)], [(40, 4)], [(41, 5)], [(41, 5)], [(41, 5)], [(41, 5), (43, 7), (44, 8)], [(41, 5), (42, 6), (45, 9)], [(41, 5), (46, 10)], [(47, 11)], [(48, 12)], [(48, 12), (49, 13)], [(48, 12), (50, 14)], [(51, 15)], [(52, 16)], [(52, 16)], [(52, 16), (53, 17), (54, 18)], [(52, 16), (55, 19)], [(56, 20)]] [(36, 0), (37, 1), (38, 2), (39, 3), (40, 4), (41, 5), (42, 6), (43, 7), (44, 8), (45, 9), (46, 10), (47, 11), (48, 12), (49, 13), (50, 14), (51, 15), (52, 16), (53, 17), (54, 18), (55, 19), (56, 20), (4, 21)] [
            (fun v _ _ => v = .bool true),
            (fun v _ _ => v = .bool true),
            (fun v _ _ => v = .int .i64 0),
            (fun v _ _ => v = .bool true),
            (fun v _ _ => v = .bool true),
            (fun v _ _ => v = .bool true),
            (fun v _ _ => v = .agg #[.int .i64 (trX tk xa ya), .int .i64 (trY tk xa ya)]),
            (fun v _ _ => v = .agg #[.int .i64 xa, .int .i64 ya]),
            (fun v _ _ => v = .int .i64 tk),
            (fun v _ _ => v = .agg #[.int .i64 (trX tk xa ya), .int .i64 (trY tk xa ya)]),
            (fun v _ _ => v = .bool true),
            (fun v _ _ => v = .bool true),
            (fun v _ _ => v = .bool true),
            (fun v _ _ => v = .int .i64 0),
            (fun v _ _ => v = .bool true),
            (fun v _ _ => v = .bool true),
            (fun v _ _ => v = .bool true),
            (fun v _ _ => v = .agg #[.int .i64 (trX (-(tk.tmod 4)) (trX tk xa ya) (trY tk xa ya)), .int .i64 (trY (-(tk.tmod 4)) (trX tk xa ya) (trY tk xa ya))]),
            (fun v _ _ => v = .agg #[.int .i64 xa, .int .i64 ya]),
            (fun v _ _ => v = .bool true),
            (fun v _ _ => v = .bool true),
            (fun v _ _ => v = .bool true)
          ] (fun _ => none) (by kernel_rfl) (by kernel_rfl) ⟨stab_eq, stab_eq, stab_eq, stab_eq, stab_eq, stab_eq, stab_eq, stab_eq, stab_eq, stab_eq, stab_eq, stab_eq, stab_eq, stab_eq, stab_eq, stab_eq, stab_eq, stab_eq, stab_eq, stab_eq, stab_eq, stab_eq, trivial⟩ ?steps ?fin
        case steps =>
          refine ⟨?_, ?_, ?_, ?_, ?_, ?_, ?_, ?_, ?_, ?_, ?_, ?_, ?_, ?_, ?_, ?_, ?_, ?_, ?_, ?_, ?_, ?_, trivial⟩
          · intro vs g w2 hI hF hR K hK
            simp only [Facts, fill, Act.put, z1, z2, z3, z4, z5, Nat.reduceAdd] at hF hR hK ⊢
            go_simp
            refine (gAlive9 hI).mono ?_
            rintro e w3 ⟨v3, rfl, hv, hb⟩
            exact hK _ _ _ (hI.call hb) (Step.call hI hb) hv
          · intro vs g w2 hI hF hR K hK
            simp only [Facts, fill, Act.put, z1, z2, z3, z4, z5, Nat.reduceAdd] at hF hR hK ⊢
            obtain ⟨r0, -⟩ := hR
            generalize vs 0 = x0 at *
            subst r0
            go_simp
            exact hK _ _ _ hI (Step.refl hI) rfl
          · intro vs g w2 hI hF hR K hK
            simp only [Facts, fill, Act.put, z1, z2, z3, z4, z5, Nat.reduceAdd] at hF hR hK ⊢
            obtain ⟨r1, -⟩ := hR
            generalize vs 1 = x1 at *
            subst r1
            go_simp
            exact hK _ _ _ hI (Step.refl hI) rfl
          · intro vs g w2 hI hF hR K hK
            simp only [Facts, fill, Act.put, z1, z2, z3, z4, z5, Nat.reduceAdd] at hF hR hK ⊢
            obtain ⟨r1, r2, -⟩ := hR
            generalize vs 1 = x1, vs 2 = x2 at *
            subst r1 r2
            go_simp
            exact hK _ _ _ hI (Step.refl hI) rfl
          · intro vs g w2 hI hF hR K hK
            simp only [Facts, fill, Act.put, z1, z2, z3, z4, z5, Nat.reduceAdd] at hF hR hK ⊢
            obtain ⟨r1, r3, -⟩ := hR
            generalize vs 1 = x1, vs 3 = x3 at *
            subst r1 r3
            go_simp
            exact hK _ _ _ hI (Step.refl hI) rfl
          · intro vs g w2 hI hF hR K hK
            simp only [Facts, fill, Act.put, z1, z2, z3, z4, z5, Nat.reduceAdd] at hF hR hK ⊢
            obtain ⟨r4, -⟩ := hR
            generalize vs 4 = x4 at *
            subst r4
            go_simp
            exact hK _ _ _ hI (Step.refl hI) rfl
          · intro vs g w2 hI hF hR K hK
            simp only [Facts, fill, Act.put, z1, z2, z3, z4, z5, Nat.reduceAdd] at hF hR hK ⊢
            obtain ⟨r5, -⟩ := hR
            generalize vs 5 = x5 at *
            subst r5
            have k0 := hI.cell CR15_R4_0.out (fun _ h => by cases h)
            have k1 := hI.cell CR15_R4_1.out (fun _ h => by cases h)
            go_simp
            exact hK _ _ _ hI (Step.refl hI) rfl
          · intro vs g w2 hI hF hR K hK
            simp only [Facts, fill, Act.put, z1, z2, z3, z4, z5, Nat.reduceAdd] at hF hR hK ⊢
            obtain ⟨r5, -⟩ := hR
            generalize vs 5 = x5 at *
            subst r5
            have k0 := hI.cell Ca_R4_0.out (fun _ h => by cases h)
            have k1 := hI.cell Ca_R4_1.out (fun _ h => by cases h)
            go_simp
            exact hK _ _ _ hI (Step.refl hI) rfl
          · intro vs g w2 hI hF hR K hK
            simp only [Facts, fill, Act.put, z1, z2, z3, z4, z5, Nat.reduceAdd] at hF hR hK ⊢
            obtain ⟨r5, -⟩ := hR
            generalize vs 5 = x5 at *
            subst r5
            go_simp
            exact hK _ _ _ hI (Step.refl hI) rfl
          · intro vs g w2 hI hF hR K hK
            simp only [Facts, fill, Act.put, z1, z2, z3, z4, z5, Nat.reduceAdd] at hF hR hK ⊢
            obtain ⟨r5, r7, r8, -⟩ := hR
            generalize vs 5 = x5, vs 7 = x7, vs 8 = x8 at *
            subst r5 r7 r8
            go_simp
            refine (gRef9Turn hI (by first | assumption | (unfold S; decide) | exact Bd.s (by first | assumption | exact trX_bd bxa bya | exact trY_bd bxa bya | exact Bd.neg (tmod4_bd _)) (by decide)) (small_bd Ha.out).1 (small_bd Ha.out).2).mono ?_
            rintro e w3 ⟨v3, rfl, hv, hb⟩
            exact hK _ _ _ (hI.call hb) (Step.call hI hb) hv
          · intro vs g w2 hI hF hR K hK
            simp only [Facts, fill, Act.put, z1, z2, z3, z4, z5, Nat.reduceAdd] at hF hR hK ⊢
            obtain ⟨r5, r6, r9, -⟩ := hR
            generalize vs 5 = x5, vs 6 = x6, vs 9 = x9 at *
            subst r5 r6 r9
            have hz0 : ((trX tk xa ya) == (trX tk xa ya)) = true := beq_self_eq_true _
            have hz1 : ((trY tk xa ya) == (trY tk xa ya)) = true := beq_self_eq_true _
            go_simp
            exact hK _ _ _ hI (Step.refl hI) rfl
          · intro vs g w2 hI hF hR K hK
            simp only [Facts, fill, Act.put, z1, z2, z3, z4, z5, Nat.reduceAdd] at hF hR hK ⊢
            obtain ⟨r5, r10, -⟩ := hR
            generalize vs 5 = x5, vs 10 = x10 at *
            subst r5 r10
            go_simp
            exact hK _ _ _ hI (Step.refl hI) rfl
          · intro vs g w2 hI hF hR K hK
            simp only [Facts, fill, Act.put, z1, z2, z3, z4, z5, Nat.reduceAdd] at hF hR hK ⊢
            obtain ⟨r11, -⟩ := hR
            generalize vs 11 = x11 at *
            subst r11
            go_simp
            exact hK _ _ _ hI (Step.refl hI) rfl
          · intro vs g w2 hI hF hR K hK
            simp only [Facts, fill, Act.put, z1, z2, z3, z4, z5, Nat.reduceAdd] at hF hR hK ⊢
            obtain ⟨r12, -⟩ := hR
            generalize vs 12 = x12 at *
            subst r12
            go_simp
            exact hK _ _ _ hI (Step.refl hI) rfl
          · intro vs g w2 hI hF hR K hK
            simp only [Facts, fill, Act.put, z1, z2, z3, z4, z5, Nat.reduceAdd] at hF hR hK ⊢
            obtain ⟨r12, r13, -⟩ := hR
            generalize vs 12 = x12, vs 13 = x13 at *
            subst r12 r13
            go_simp
            exact hK _ _ _ hI (Step.refl hI) rfl
          · intro vs g w2 hI hF hR K hK
            simp only [Facts, fill, Act.put, z1, z2, z3, z4, z5, Nat.reduceAdd] at hF hR hK ⊢
            obtain ⟨r12, r14, -⟩ := hR
            generalize vs 12 = x12, vs 14 = x14 at *
            subst r12 r14
            go_simp
            exact hK _ _ _ hI (Step.refl hI) rfl
          · intro vs g w2 hI hF hR K hK
            simp only [Facts, fill, Act.put, z1, z2, z3, z4, z5, Nat.reduceAdd] at hF hR hK ⊢
            obtain ⟨r15, -⟩ := hR
            generalize vs 15 = x15 at *
            subst r15
            go_simp
            exact hK _ _ _ hI (Step.refl hI) rfl
          · intro vs g w2 hI hF hR K hK
            simp only [Facts, fill, Act.put, z1, z2, z3, z4, z5, Nat.reduceAdd] at hF hR hK ⊢
            obtain ⟨r16, -⟩ := hR
            generalize vs 16 = x16 at *
            subst r16
            have k0 := hI.cell CR47_R4_0.out (fun _ h => by cases h)
            have k1 := hI.cell CR47_R4_1.out (fun _ h => by cases h)
            go_simp
            exact hK _ _ _ hI (Step.refl hI) rfl
          · intro vs g w2 hI hF hR K hK
            simp only [Facts, fill, Act.put, z1, z2, z3, z4, z5, Nat.reduceAdd] at hF hR hK ⊢
            obtain ⟨r16, -⟩ := hR
            generalize vs 16 = x16 at *
            subst r16
            have k0 := hI.cell Ca_R4_0.out (fun _ h => by cases h)
            have k1 := hI.cell Ca_R4_1.out (fun _ h => by cases h)
            go_simp
            exact hK _ _ _ hI (Step.refl hI) rfl
          · intro vs g w2 hI hF hR K hK
            simp only [Facts, fill, Act.put, z1, z2, z3, z4, z5, Nat.reduceAdd] at hF hR hK ⊢
            obtain ⟨r16, r17, r18, -⟩ := hR
            generalize vs 16 = x16, vs 17 = x17, vs 18 = x18 at *
            subst r16 r17 r18
            have hz0 : ((trX (-(tk.tmod 4)) (trX tk xa ya) (trY tk xa ya)) == xa) = true := (by first | exact beq_self_eq_true _ | (rw [beq_iff_eq]; exact (tr_back _ _ _).1) | (rw [beq_iff_eq]; exact (tr_back _ _ _).2) | decide +kernel)
            have hz1 : ((trY (-(tk.tmod 4)) (trX tk xa ya) (trY tk xa ya)) == ya) = true := (by first | exact beq_self_eq_true _ | (rw [beq_iff_eq]; exact (tr_back _ _ _).1) | (rw [beq_iff_eq]; exact (tr_back _ _ _).2) | decide +kernel)
            go_simp
            exact hK _ _ _ hI (Step.refl hI) rfl
          · intro vs g w2 hI hF hR K hK
            simp only [Facts, fill, Act.put, z1, z2, z3, z4, z5, Nat.reduceAdd] at hF hR hK ⊢
            obtain ⟨r16, r19, -⟩ := hR
            generalize vs 16 = x16, vs 19 = x19 at *
            subst r16 r19
            go_simp
            exact hK _ _ _ hI (Step.refl hI) rfl
          · intro vs g w2 hI hF hR K hK
            simp only [Facts, fill, Act.put, z1, z2, z3, z4, z5, Nat.reduceAdd] at hF hR hK ⊢
            obtain ⟨r20, -⟩ := hR
            generalize vs 20 = x20 at *
            subst r20
            go_simp
            exact hK _ _ _ hI (Step.refl hI) rfl
        case fin =>
          intro vs g wR5 hI hR
          have r21 := hR 21 (by decide)
          simp only [fill, Act.put, z1, z2, z3, z4, z5] at r21 ⊢
          clear hR
          generalize vs 21 = x21 at *
          have Ca_R5_0 := Lib.hid (hI.cell Ca_R4_0.out (fun _ h => by cases h))
          have Ca_R5_1 := Lib.hid (hI.cell Ca_R4_1.out (fun _ h => by cases h))
          have CR15_R5_0 := Lib.hid (hI.cell CR15_R4_0.out (fun _ h => by cases h))
          have CR15_R5_1 := Lib.hid (hI.cell CR15_R4_1.out (fun _ h => by cases h))
          have CR47_R5_0 := Lib.hid (hI.cell CR47_R4_0.out (fun _ h => by cases h))
          have CR47_R5_1 := Lib.hid (hI.cell CR47_R4_1.out (fun _ h => by cases h))
          subst r21
          have hBR5 := hI.below
          have HCR5 := hI.next HCR4
          clear hI
          go_wp2
          go_ret
          exact ⟨rfl, hBR5⟩
theorem law_planeTurns (xa ya : Int) (tk : Int) (w : World) (sxa : S xa) (sya : S ya) (sk : S tk) :
    Calls Try.prog 5 #[.agg #[.int .i64 xa, .int .i64 ya], .int .i64 tk] w fun e w' => e = .returned (.bool true) ∧ Below w.heap.size w w' := by
  rcases ha : smallB xa ya with _ | _
  · exact law9T_F xa ya tk sxa sya w ha sk
  · exact law9T_T xa ya tk sxa sya w ha sk
end Go.Proofs.Ythdboeegngcfeaa
