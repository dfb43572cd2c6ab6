/-
  Law PlaneConverts. (Written by law9.py.)
-/
import Derived.Test.YthdboeegngcfeaaLaw9a
namespace Go.Proofs.Ythdboeegngcfeaa
open Go.RowKit
set_option maxRecDepth 100000
set_option linter.unusedVariables false
set_option linter.unusedSimpArgs false

set_option maxRecDepth 100000 in
set_option maxHeartbeats 4000000 in
theorem law9V_F (xa ya : Int) (sxa : S xa) (sya : S ya) (w : World) (ha : smallB xa ya = false) :
    Calls Try.prog 6 #[.agg #[.int .i64 xa, .int .i64 ya]] w fun e w' => e = .returned (.bool true) ∧ Below w.heap.size w w' := by
  have Ha := Lib.hid ha
  clear ha
  obtain ⟨W, hW⟩ : ∃ W, W = w.alloc (.cells #[.int .i64 xa, .int .i64 ya] 23) := ⟨_, rfl⟩
  have hb0 : Below w.heap.size w W := by rw [hW]; exact ((Below.refl _ _).alloc (Nat.le_refl _) _)
  have Ca_W_0 := Lib.hid (show W.cell? ⟨w.heap.size, 0, none⟩ = some (.int .i64 xa) by rw [hW]; simp [go_sem])
  have Ca_W_1 := Lib.hid (show W.cell? ⟨w.heap.size, 1, none⟩ = some (.int .i64 ya) by rw [hW]; simp [go_sem])
  have HW := Lib.hid hW
  clear hW
  go_enter Try.func6, Try.ntmps6
  go_upto_region 1 with (fail)
  rw [← HW.out]
  refine box_plan0 (c := ⟨w, W, (fun _ => none)⟩) (Ctx.ok_none hb0) [[], [(6, 0)], [(7, 1)]] [(6, 0), (7, 1), (3, 2)] [
      (fun v _ _ => v = .agg #[.int .i64 xa, .int .i64 ya]),
      (fun v _ _ => v = .complex .f64 (floatOfInt .f64 xa) (floatOfInt .f64 ya)),
      (fun v _ _ => v = .complex .f64 (floatOfInt .f64 xa) (floatOfInt .f64 ya))
    ] (fun _ => none) (by kernel_rfl) (by kernel_rfl) ⟨stab_eq, stab_eq, stab_eq, trivial⟩ ?steps ?fin
  case steps =>
    refine ⟨?_, ?_, ?_, trivial⟩
    · intro vs g w2 hI hF hR K hK
      simp only [Facts, fill, Act.put, z1, z2, z3, z4, z5, Nat.reduceAdd] at hF hR hK ⊢
      have k0 := hI.cell Ca_W_0.out (fun _ h => by cases h)
      have k1 := hI.cell Ca_W_1.out (fun _ h => by cases h)
      go_simp
      exact hK _ _ _ hI (Step.refl hI) rfl
    · intro vs g w2 hI hF hR K hK
      simp only [Facts, fill, Act.put, z1, z2, z3, z4, z5, Nat.reduceAdd] at hF hR hK ⊢
      obtain ⟨r0, -⟩ := hR
      generalize vs 0 = x0 at *
      subst r0
      go_simp
      refine (gPlComplex hI (by first | assumption | (unfold S; decide) | exact Bd.s (by first | assumption | exact trX_bd bxa bya | exact trY_bd bxa bya | exact Bd.neg (tmod4_bd _)) (by decide)) (by first | assumption | (unfold S; decide) | exact Bd.s (by first | assumption | exact trX_bd bxa bya | exact trY_bd bxa bya | exact Bd.neg (tmod4_bd _)) (by decide))).mono ?_
      rintro e w3 ⟨v3, rfl, hv, hb⟩
      exact hK _ _ _ (hI.call hb) (Step.call hI hb) hv
    · intro vs g w2 hI hF hR K hK
      simp only [Facts, fill, Act.put, z1, z2, z3, z4, z5, Nat.reduceAdd] at hF hR hK ⊢
      obtain ⟨r1, -⟩ := hR
      generalize vs 1 = x1 at *
      subst r1
      go_simp
      exact hK _ _ _ hI (Step.refl hI) rfl
  case fin =>
    intro vs g wR1 hI hR
    have r2 := hR 2 (by decide)
    simp only [fill, Act.put, z1, z2, z3, z4, z5] at r2 ⊢
    clear hR
    generalize vs 2 = x2 at *
    have Ca_R1_0 := Lib.hid (hI.cell Ca_W_0.out (fun _ h => by cases h))
    have Ca_R1_1 := Lib.hid (hI.cell Ca_W_1.out (fun _ h => by cases h))
    subst r2
    have hBR1 := hI.below
    have HCR1 := hI.next (Ctx.ok_none hb0)
    clear hI
    go_upto_region 2 with (fail)
    refine box_plan0 (c := ⟨w, wR1, (fun _ => none)⟩) HCR1 [[], [(8, 0)], [], [(10, 2)], [(11, 3)], [(9, 1), (12, 4)], [(13, 5)], [(14, 6)], [(14, 6), (15, 7)], [(14, 6)], [(14, 6), (17, 9)], [(14, 6), (18, 10)], [(14, 6), (16, 8), (19, 11)], [(14, 6), (20, 12)]] [(8, 0), (9, 1), (10, 2), (11, 3), (12, 4), (13, 5), (14, 6), (15, 7), (16, 8), (17, 9), (18, 10), (19, 11), (20, 12), (21, 13)] [
        (fun v _ _ => v = .complex .f64 (floatOfInt .f64 xa) (floatOfInt .f64 ya)),
        (fun v _ _ => v = .float .f64 (floatOfInt .f64 xa)),
        (fun v _ _ => v = .pointer (some ⟨w.heap.size, 0, none⟩)),
        (fun v _ _ => v = .int .i64 xa),
        (fun v _ _ => v = .float .f64 (floatOfInt .f64 xa)),
        (fun v _ _ => v = .bool false),
        (fun v _ _ => v = .bool false),
        (fun v _ _ => v = .complex .f64 (floatOfInt .f64 xa) (floatOfInt .f64 ya)),
        (fun v _ _ => v = .float .f64 (floatOfInt .f64 ya)),
        (fun v _ _ => v = .pointer (some ⟨w.heap.size, 1, none⟩)),
        (fun v _ _ => v = .int .i64 ya),
        (fun v _ _ => v = .float .f64 (floatOfInt .f64 ya)),
        (fun v _ _ => v = .bool false),
        (fun v _ _ => v = .bool false)
      ] (fun _ => none) (by kernel_rfl) (by kernel_rfl) ⟨stab_eq, stab_eq, stab_eq, stab_eq, stab_eq, stab_eq, stab_eq, stab_eq, stab_eq, stab_eq, stab_eq, stab_eq, stab_eq, stab_eq, trivial⟩ ?steps ?fin
    case steps =>
      refine ⟨?_, ?_, ?_, ?_, ?_, ?_, ?_, ?_, ?_, ?_, ?_, ?_, ?_, ?_, trivial⟩
      · intro vs g w2 hI hF hR K hK
        simp only [Facts, fill, Act.put, z1, z2, z3, z4, z5, Nat.reduceAdd] at hF hR hK ⊢
        go_simp
        exact hK _ _ _ hI (Step.refl hI) rfl
      · intro vs g w2 hI hF hR K hK
        simp only [Facts, fill, Act.put, z1, z2, z3, z4, z5, Nat.reduceAdd] at hF hR hK ⊢
        obtain ⟨r0, -⟩ := hR
        generalize vs 0 = x0 at *
        subst r0
        go_simp
        exact hK _ _ _ hI (Step.refl hI) rfl
      · intro vs g w2 hI hF hR K hK
        simp only [Facts, fill, Act.put, z1, z2, z3, z4, z5, Nat.reduceAdd] at hF hR hK ⊢
        go_simp
        exact hK _ _ _ hI (Step.refl hI) rfl
      · intro vs g w2 hI hF hR K hK
        simp only [Facts, fill, Act.put, z1, z2, z3, z4, z5, Nat.reduceAdd] at hF hR hK ⊢
        obtain ⟨r2, -⟩ := hR
        generalize vs 2 = x2 at *
        subst r2
        have k0 := hI.cell Ca_R1_0.out (fun _ h => by cases h)
        go_simp
        exact hK _ _ _ hI (Step.refl hI) rfl
      · intro vs g w2 hI hF hR K hK
        simp only [Facts, fill, Act.put, z1, z2, z3, z4, z5, Nat.reduceAdd] at hF hR hK ⊢
        obtain ⟨r3, -⟩ := hR
        generalize vs 3 = x3 at *
        subst r3
        go_simp
        exact hK _ _ _ hI (Step.refl hI) rfl
      · intro vs g w2 hI hF hR K hK
        simp only [Facts, fill, Act.put, z1, z2, z3, z4, z5, Nat.reduceAdd] at hF hR hK ⊢
        obtain ⟨r1, r4, -⟩ := hR
        generalize vs 1 = x1, vs 4 = x4 at *
        subst r1 r4
        have hz := ord_self xa
        go_simp
        exact hK _ _ _ hI (Step.refl hI) rfl
      · intro vs g w2 hI hF hR K hK
        simp only [Facts, fill, Act.put, z1, z2, z3, z4, z5, Nat.reduceAdd] at hF hR hK ⊢
        obtain ⟨r5, -⟩ := hR
        generalize vs 5 = x5 at *
        subst r5
        go_simp
        exact hK _ _ _ hI (Step.refl hI) rfl
      · intro vs g w2 hI hF hR K hK
        simp only [Facts, fill, Act.put, z1, z2, z3, z4, z5, Nat.reduceAdd] at hF hR hK ⊢
        obtain ⟨r6, -⟩ := hR
        generalize vs 6 = x6 at *
        subst r6
        go_simp
        exact hK _ _ _ hI (Step.refl hI) rfl
      · intro vs g w2 hI hF hR K hK
        simp only [Facts, fill, Act.put, z1, z2, z3, z4, z5, Nat.reduceAdd] at hF hR hK ⊢
        obtain ⟨r6, r7, -⟩ := hR
        generalize vs 6 = x6, vs 7 = x7 at *
        subst r6 r7
        go_simp
        exact hK _ _ _ hI (Step.refl hI) rfl
      · intro vs g w2 hI hF hR K hK
        simp only [Facts, fill, Act.put, z1, z2, z3, z4, z5, Nat.reduceAdd] at hF hR hK ⊢
        obtain ⟨r6, -⟩ := hR
        generalize vs 6 = x6 at *
        subst r6
        go_simp
        exact hK _ _ _ hI (Step.refl hI) rfl
      · intro vs g w2 hI hF hR K hK
        simp only [Facts, fill, Act.put, z1, z2, z3, z4, z5, Nat.reduceAdd] at hF hR hK ⊢
        obtain ⟨r6, r9, -⟩ := hR
        generalize vs 6 = x6, vs 9 = x9 at *
        subst r6 r9
        have k0 := hI.cell Ca_R1_1.out (fun _ h => by cases h)
        go_simp
        exact hK _ _ _ hI (Step.refl hI) rfl
      · intro vs g w2 hI hF hR K hK
        simp only [Facts, fill, Act.put, z1, z2, z3, z4, z5, Nat.reduceAdd] at hF hR hK ⊢
        obtain ⟨r6, r10, -⟩ := hR
        generalize vs 6 = x6, vs 10 = x10 at *
        subst r6 r10
        go_simp
        exact hK _ _ _ hI (Step.refl hI) rfl
      · intro vs g w2 hI hF hR K hK
        simp only [Facts, fill, Act.put, z1, z2, z3, z4, z5, Nat.reduceAdd] at hF hR hK ⊢
        obtain ⟨r6, r8, r11, -⟩ := hR
        generalize vs 6 = x6, vs 8 = x8, vs 11 = x11 at *
        subst r6 r8 r11
        have hz := ord_self ya
        go_simp
        exact hK _ _ _ hI (Step.refl hI) rfl
      · intro vs g w2 hI hF hR K hK
        simp only [Facts, fill, Act.put, z1, z2, z3, z4, z5, Nat.reduceAdd] at hF hR hK ⊢
        obtain ⟨r6, r12, -⟩ := hR
        generalize vs 6 = x6, vs 12 = x12 at *
        subst r6 r12
        go_simp
        exact hK _ _ _ hI (Step.refl hI) rfl
    case fin =>
      intro vs g wR2 hI hR
      have r13 := hR 13 (by decide)
      simp only [fill, Act.put, z1, z2, z3, z4, z5] at r13 ⊢
      clear hR
      generalize vs 13 = x13 at *
      have Ca_R2_0 := Lib.hid (hI.cell Ca_R1_0.out (fun _ h => by cases h))
      have Ca_R2_1 := Lib.hid (hI.cell Ca_R1_1.out (fun _ h => by cases h))
      subst r13
      have hBR2 := hI.below
      have HCR2 := hI.next HCR1
      clear hI
      go_upto_region 4 with (fail)
      refine box_plan0 (c := ⟨w, wR2, (fun _ => none)⟩) HCR2 [[], [(22, 0)], [(23, 1)]] [(22, 0), (23, 1), (24, 2)] [
          (fun v _ _ => v = .agg #[.int .i64 xa, .int .i64 ya]),
          (fun v _ _ => v = .bool false),
          (fun v _ _ => v = .bool true)
        ] (fun _ => none) (by kernel_rfl) (by kernel_rfl) ⟨stab_eq, stab_eq, stab_eq, trivial⟩ ?steps ?fin
      case steps =>
        refine ⟨?_, ?_, ?_, trivial⟩
        · intro vs g w2 hI hF hR K hK
          simp only [Facts, fill, Act.put, z1, z2, z3, z4, z5, Nat.reduceAdd] at hF hR hK ⊢
          have k0 := hI.cell Ca_R2_0.out (fun _ h => by cases h)
          have k1 := hI.cell Ca_R2_1.out (fun _ h => by cases h)
          go_simp
          exact hK _ _ _ hI (Step.refl hI) rfl
        · intro vs g w2 hI hF hR K hK
          simp only [Facts, fill, Act.put, z1, z2, z3, z4, z5, Nat.reduceAdd] at hF hR hK ⊢
          obtain ⟨r0, -⟩ := hR
          generalize vs 0 = x0 at *
          subst r0
          go_simp
          refine (gRef9Small hI Ha.out).mono ?_
          rintro e w3 ⟨v3, rfl, hv, hb⟩
          exact hK _ _ _ (hI.call hb) (Step.call hI hb) hv
        · intro vs g w2 hI hF hR K hK
          simp only [Facts, fill, Act.put, z1, z2, z3, z4, z5, Nat.reduceAdd] at hF hR hK ⊢
          obtain ⟨r1, -⟩ := hR
          generalize vs 1 = x1 at *
          subst r1
          go_simp
          exact hK _ _ _ hI (Step.refl hI) rfl
      case fin =>
        intro vs g wR4 hI hR
        have r2 := hR 2 (by decide)
        simp only [fill, Act.put, z1, z2, z3, z4, z5] at r2 ⊢
        clear hR
        generalize vs 2 = x2 at *
        have Ca_R4_0 := Lib.hid (hI.cell Ca_R2_0.out (fun _ h => by cases h))
        have Ca_R4_1 := Lib.hid (hI.cell Ca_R2_1.out (fun _ h => by cases h))
        subst r2
        have hBR4 := hI.below
        have HCR4 := hI.next HCR2
        clear hI
        go_upto_region 5 with (fail)
        refine box_plan0 (c := ⟨w, wR4, (fun _ => none)⟩) HCR4 [[], [(25, 0)]] [(25, 0), (2, 1)] [
            (fun v _ _ => v = .bool true),
            (fun v _ _ => v = .bool true)
          ] (fun _ => none) (by kernel_rfl) (by kernel_rfl) ⟨stab_eq, stab_eq, trivial⟩ ?steps ?fin
        case steps =>
          refine ⟨?_, ?_, trivial⟩
          · intro vs g w2 hI hF hR K hK
            simp only [Facts, fill, Act.put, z1, z2, z3, z4, z5, Nat.reduceAdd] at hF hR hK ⊢
            go_simp
            refine (gAlive9 hI).mono ?_
            rintro e w3 ⟨v3, rfl, hv, hb⟩
            exact hK _ _ _ (hI.call hb) (Step.call hI hb) hv
          · intro vs g w2 hI hF hR K hK
            simp only [Facts, fill, Act.put, z1, z2, z3, z4, z5, Nat.reduceAdd] at hF hR hK ⊢
            obtain ⟨r0, -⟩ := hR
            generalize vs 0 = x0 at *
            subst r0
            go_simp
            exact hK _ _ _ hI (Step.refl hI) rfl
        case fin =>
          intro vs g wR5 hI hR
          have r1 := hR 1 (by decide)
          simp only [fill, Act.put, z1, z2, z3, z4, z5] at r1 ⊢
          clear hR
          generalize vs 1 = x1 at *
          have Ca_R5_0 := Lib.hid (hI.cell Ca_R4_0.out (fun _ h => by cases h))
          have Ca_R5_1 := Lib.hid (hI.cell Ca_R4_1.out (fun _ h => by cases h))
          subst r1
          have hBR5 := hI.below
          have HCR5 := hI.next HCR4
          clear hI
          go_wp2
          go_ret
          exact ⟨rfl, hBR5⟩
set_option maxRecDepth 100000 in
set_option maxHeartbeats 4000000 in
theorem law9V_T (xa ya : Int) (sxa : S xa) (sya : S ya) (w : World) (ha : smallB xa ya = true) :
    Calls Try.prog 6 #[.agg #[.int .i64 xa, .int .i64 ya]] w fun e w' => e = .returned (.bool true) ∧ Below w.heap.size w w' := by
  have Ha := Lib.hid ha
  obtain ⟨bxa, bya⟩ := small_bd ha
  clear ha
  obtain ⟨W, hW⟩ : ∃ W, W = w.alloc (.cells #[.int .i64 xa, .int .i64 ya] 23) := ⟨_, rfl⟩
  have hb0 : Below w.heap.size w W := by rw [hW]; exact ((Below.refl _ _).alloc (Nat.le_refl _) _)
  have Ca_W_0 := Lib.hid (show W.cell? ⟨w.heap.size, 0, none⟩ = some (.int .i64 xa) by rw [hW]; simp [go_sem])
  have Ca_W_1 := Lib.hid (show W.cell? ⟨w.heap.size, 1, none⟩ = some (.int .i64 ya) by rw [hW]; simp [go_sem])
  have HW := Lib.hid hW
  clear hW
  go_enter Try.func6, Try.ntmps6
  go_upto_region 1 with (fail)
  rw [← HW.out]
  refine box_plan0 (c := ⟨w, W, (fun _ => none)⟩) (Ctx.ok_none hb0) [[], [(6, 0)], [(7, 1)]] [(6, 0), (7, 1), (3, 2)] [
      (fun v _ _ => v = .agg #[.int .i64 xa, .int .i64 ya]),
      (fun v _ _ => v = .complex .f64 (floatOfInt .f64 xa) (floatOfInt .f64 ya)),
      (fun v _ _ => v = .complex .f64 (floatOfInt .f64 xa) (floatOfInt .f64 ya))
    ] (fun _ => none) (by kernel_rfl) (by kernel_rfl) ⟨stab_eq, stab_eq, stab_eq, trivial⟩ ?steps ?fin
  case steps =>
    refine ⟨?_, ?_, ?_, trivial⟩
    · intro vs g w2 hI hF hR K hK
      simp only [Facts, fill, Act.put, z1, z2, z3, z4, z5, Nat.reduceAdd] at hF hR hK ⊢
      have k0 := hI.cell Ca_W_0.out (fun _ h => by cases h)
      have k1 := hI.cell Ca_W_1.out (fun _ h => by cases h)
      go_simp
      exact hK _ _ _ hI (Step.refl hI) rfl
    · intro vs g w2 hI hF hR K hK
      simp only [Facts, fill, Act.put, z1, z2, z3, z4, z5, Nat.reduceAdd] at hF hR hK ⊢
      obtain ⟨r0, -⟩ := hR
      generalize vs 0 = x0 at *
      subst r0
      go_simp
      refine (gPlComplex hI (by first | assumption | (unfold S; decide) | exact Bd.s (by first | assumption | exact trX_bd bxa bya | exact trY_bd bxa bya | exact Bd.neg (tmod4_bd _)) (by decide)) (by first | assumption | (unfold S; decide) | exact Bd.s (by first | assumption | exact trX_bd bxa bya | exact trY_bd bxa bya | exact Bd.neg (tmod4_bd _)) (by decide))).mono ?_
      rintro e w3 ⟨v3, rfl, hv, hb⟩
      exact hK _ _ _ (hI.call hb) (Step.call hI hb) hv
    · intro vs g w2 hI hF hR K hK
      simp only [Facts, fill, Act.put, z1, z2, z3, z4, z5, Nat.reduceAdd] at hF hR hK ⊢
      obtain ⟨r1, -⟩ := hR
      generalize vs 1 = x1 at *
      subst r1
      go_simp
      exact hK _ _ _ hI (Step.refl hI) rfl
  case fin =>
    intro vs g wR1 hI hR
    have r2 := hR 2 (by decide)
    simp only [fill, Act.put, z1, z2, z3, z4, z5] at r2 ⊢
    clear hR
    generalize vs 2 = x2 at *
    have Ca_R1_0 := Lib.hid (hI.cell Ca_W_0.out (fun _ h => by cases h))
    have Ca_R1_1 := Lib.hid (hI.cell Ca_W_1.out (fun _ h => by cases h))
    subst r2
    have hBR1 := hI.below
    have HCR1 := hI.next (Ctx.ok_none hb0)
    clear hI
    go_upto_region 2 with (fail)
    refine box_plan0 (c := ⟨w, wR1, (fun _ => none)⟩) HCR1 [[], [(8, 0)], [], [(10, 2)], [(11, 3)], [(9, 1), (12, 4)], [(13, 5)], [(14, 6)], [(14, 6), (15, 7)], [(14, 6)], [(14, 6), (17, 9)], [(14, 6), (18, 10)], [(14, 6), (16, 8), (19, 11)], [(14, 6), (20, 12)]] [(8, 0), (9, 1), (10, 2), (11, 3), (12, 4), (13, 5), (14, 6), (15, 7), (16, 8), (17, 9), (18, 10), (19, 11), (20, 12), (21, 13)] [
        (fun v _ _ => v = .complex .f64 (floatOfInt .f64 xa) (floatOfInt .f64 ya)),
        (fun v _ _ => v = .float .f64 (floatOfInt .f64 xa)),
        (fun v _ _ => v = .pointer (some ⟨w.heap.size, 0, none⟩)),
        (fun v _ _ => v = .int .i64 xa),
        (fun v _ _ => v = .float .f64 (floatOfInt .f64 xa)),
        (fun v _ _ => v = .bool false),
        (fun v _ _ => v = .bool false),
        (fun v _ _ => v = .complex .f64 (floatOfInt .f64 xa) (floatOfInt .f64 ya)),
        (fun v _ _ => v = .float .f64 (floatOfInt .f64 ya)),
        (fun v _ _ => v = .pointer (some ⟨w.heap.size, 1, none⟩)),
        (fun v _ _ => v = .int .i64 ya),
        (fun v _ _ => v = .float .f64 (floatOfInt .f64 ya)),
        (fun v _ _ => v = .bool false),
        (fun v _ _ => v = .bool false)
      ] (fun _ => none) (by kernel_rfl) (by kernel_rfl) ⟨stab_eq, stab_eq, stab_eq, stab_eq, stab_eq, stab_eq, stab_eq, stab_eq, stab_eq, stab_eq, stab_eq, stab_eq, stab_eq, stab_eq, trivial⟩ ?steps ?fin
    case steps =>
      refine ⟨?_, ?_, ?_, ?_, ?_, ?_, ?_, ?_, ?_, ?_, ?_, ?_, ?_, ?_, trivial⟩
      · intro vs g w2 hI hF hR K hK
        simp only [Facts, fill, Act.put, z1, z2, z3, z4, z5, Nat.reduceAdd] at hF hR hK ⊢
        go_simp
        exact hK _ _ _ hI (Step.refl hI) rfl
      · intro vs g w2 hI hF hR K hK
        simp only [Facts, fill, Act.put, z1, z2, z3, z4, z5, Nat.reduceAdd] at hF hR hK ⊢
        obtain ⟨r0, -⟩ := hR
        generalize vs 0 = x0 at *
        subst r0
        go_simp
        exact hK _ _ _ hI (Step.refl hI) rfl
      · intro vs g w2 hI hF hR K hK
        simp only [Facts, fill, Act.put, z1, z2, z3, z4, z5, Nat.reduceAdd] at hF hR hK ⊢
        go_simp
        exact hK _ _ _ hI (Step.refl hI) rfl
      · intro vs g w2 hI hF hR K hK
        simp only [Facts, fill, Act.put, z1, z2, z3, z4, z5, Nat.reduceAdd] at hF hR hK ⊢
        obtain ⟨r2, -⟩ := hR
        generalize vs 2 = x2 at *
        subst r2
        have k0 := hI.cell Ca_R1_0.out (fun _ h => by cases h)
        go_simp
        exact hK _ _ _ hI (Step.refl hI) rfl
      · intro vs g w2 hI hF hR K hK
        simp only [Facts, fill, Act.put, z1, z2, z3, z4, z5, Nat.reduceAdd] at hF hR hK ⊢
        obtain ⟨r3, -⟩ := hR
        generalize vs 3 = x3 at *
        subst r3
        go_simp
        exact hK _ _ _ hI (Step.refl hI) rfl
      · intro vs g w2 hI hF hR K hK
        simp only [Facts, fill, Act.put, z1, z2, z3, z4, z5, Nat.reduceAdd] at hF hR hK ⊢
        obtain ⟨r1, r4, -⟩ := hR
        generalize vs 1 = x1, vs 4 = x4 at *
        subst r1 r4
        have hz := ord_self xa
        go_simp
        exact hK _ _ _ hI (Step.refl hI) rfl
      · intro vs g w2 hI hF hR K hK
        simp only [Facts, fill, Act.put, z1, z2, z3, z4, z5, Nat.reduceAdd] at hF hR hK ⊢
        obtain ⟨r5, -⟩ := hR
        generalize vs 5 = x5 at *
        subst r5
        go_simp
        exact hK _ _ _ hI (Step.refl hI) rfl
      · intro vs g w2 hI hF hR K hK
        simp only [Facts, fill, Act.put, z1, z2, z3, z4, z5, Nat.reduceAdd] at hF hR hK ⊢
        obtain ⟨r6, -⟩ := hR
        generalize vs 6 = x6 at *
        subst r6
        go_simp
        exact hK _ _ _ hI (Step.refl hI) rfl
      · intro vs g w2 hI hF hR K hK
        simp only [Facts, fill, Act.put, z1, z2, z3, z4, z5, Nat.reduceAdd] at hF hR hK ⊢
        obtain ⟨r6, r7, -⟩ := hR
        generalize vs 6 = x6, vs 7 = x7 at *
        subst r6 r7
        go_simp
        exact hK _ _ _ hI (Step.refl hI) rfl
      · intro vs g w2 hI hF hR K hK
        simp only [Facts, fill, Act.put, z1, z2, z3, z4, z5, Nat.reduceAdd] at hF hR hK ⊢
        obtain ⟨r6, -⟩ := hR
        generalize vs 6 = x6 at *
        subst r6
        go_simp
        exact hK _ _ _ hI (Step.refl hI) rfl
      · intro vs g w2 hI hF hR K hK
        simp only [Facts, fill, Act.put, z1, z2, z3, z4, z5, Nat.reduceAdd] at hF hR hK ⊢
        obtain ⟨r6, r9, -⟩ := hR
        generalize vs 6 = x6, vs 9 = x9 at *
        subst r6 r9
        have k0 := hI.cell Ca_R1_1.out (fun _ h => by cases h)
        go_simp
        exact hK _ _ _ hI (Step.refl hI) rfl
      · intro vs g w2 hI hF hR K hK
        simp only [Facts, fill, Act.put, z1, z2, z3, z4, z5, Nat.reduceAdd] at hF hR hK ⊢
        obtain ⟨r6, r10, -⟩ := hR
        generalize vs 6 = x6, vs 10 = x10 at *
        subst r6 r10
        go_simp
        exact hK _ _ _ hI (Step.refl hI) rfl
      · intro vs g w2 hI hF hR K hK
        simp only [Facts, fill, Act.put, z1, z2, z3, z4, z5, Nat.reduceAdd] at hF hR hK ⊢
        obtain ⟨r6, r8, r11, -⟩ := hR
        generalize vs 6 = x6, vs 8 = x8, vs 11 = x11 at *
        subst r6 r8 r11
        have hz := ord_self ya
        go_simp
        exact hK _ _ _ hI (Step.refl hI) rfl
      · intro vs g w2 hI hF hR K hK
        simp only [Facts, fill, Act.put, z1, z2, z3, z4, z5, Nat.reduceAdd] at hF hR hK ⊢
        obtain ⟨r6, r12, -⟩ := hR
        generalize vs 6 = x6, vs 12 = x12 at *
        subst r6 r12
        go_simp
        exact hK _ _ _ hI (Step.refl hI) rfl
    case fin =>
      intro vs g wR2 hI hR
      have r13 := hR 13 (by decide)
      simp only [fill, Act.put, z1, z2, z3, z4, z5] at r13 ⊢
      clear hR
      generalize vs 13 = x13 at *
      have Ca_R2_0 := Lib.hid (hI.cell Ca_R1_0.out (fun _ h => by cases h))
      have Ca_R2_1 := Lib.hid (hI.cell Ca_R1_1.out (fun _ h => by cases h))
      subst r13
      have hBR2 := hI.below
      have HCR2 := hI.next HCR1
      clear hI
      go_upto_region 4 with (fail)
      refine box_plan0 (c := ⟨w, wR2, (fun _ => none)⟩) HCR2 [[], [(22, 0)], [(23, 1)]] [(22, 0), (23, 1), (24, 2)] [
          (fun v _ _ => v = .agg #[.int .i64 xa, .int .i64 ya]),
          (fun v _ _ => v = .bool true),
          (fun v _ _ => v = .bool false)
        ] (fun _ => none) (by kernel_rfl) (by kernel_rfl) ⟨stab_eq, stab_eq, stab_eq, trivial⟩ ?steps ?fin
      case steps =>
        refine ⟨?_, ?_, ?_, trivial⟩
        · intro vs g w2 hI hF hR K hK
          simp only [Facts, fill, Act.put, z1, z2, z3, z4, z5, Nat.reduceAdd] at hF hR hK ⊢
          have k0 := hI.cell Ca_R2_0.out (fun _ h => by cases h)
          have k1 := hI.cell Ca_R2_1.out (fun _ h => by cases h)
          go_simp
          exact hK _ _ _ hI (Step.refl hI) rfl
        · intro vs g w2 hI hF hR K hK
          simp only [Facts, fill, Act.put, z1, z2, z3, z4, z5, Nat.reduceAdd] at hF hR hK ⊢
          obtain ⟨r0, -⟩ := hR
          generalize vs 0 = x0 at *
          subst r0
          go_simp
          refine (gRef9Small hI Ha.out).mono ?_
          rintro e w3 ⟨v3, rfl, hv, hb⟩
          exact hK _ _ _ (hI.call hb) (Step.call hI hb) hv
        · intro vs g w2 hI hF hR K hK
          simp only [Facts, fill, Act.put, z1, z2, z3, z4, z5, Nat.reduceAdd] at hF hR hK ⊢
          obtain ⟨r1, -⟩ := hR
          generalize vs 1 = x1 at *
          subst r1
          go_simp
          exact hK _ _ _ hI (Step.refl hI) rfl
      case fin =>
        intro vs g wR4 hI hR
        have r2 := hR 2 (by decide)
        simp only [fill, Act.put, z1, z2, z3, z4, z5] at r2 ⊢
        clear hR
        generalize vs 2 = x2 at *
        have Ca_R4_0 := Lib.hid (hI.cell Ca_R2_0.out (fun _ h => by cases h))
        have Ca_R4_1 := Lib.hid (hI.cell Ca_R2_1.out (fun _ h => by cases h))
        subst r2
        have hBR4 := hI.below
        have HCR4 := hI.next HCR2
        clear hI
        go_upto_region 6 with (fail)
        refine box_plan0 (c := ⟨w, wR4, (fun _ => none)⟩) HCR4 [[], [(27, 0)], [(28, 1)], [(26, 2)], [(26, 2)], [], [(4, 5), (29, 3)], [(30, 4)]] [(27, 0), (28, 1), (26, 2), (29, 3), (30, 4), (4, 5), (5, 7)] [
            (fun v _ _ => v = .complex .f64 (floatOfInt .f64 xa) (floatOfInt .f64 ya)),
            (fun v _ _ => v = .tuple #[.agg #[.int .i64 xa, .int .i64 ya], .int .i64 0]),
            (fun v _ _ => v = .tuple #[.agg #[.int .i64 xa, .int .i64 ya], .int .i64 0]),
            (fun v _ _ => v = .agg #[.int .i64 xa, .int .i64 ya]),
            (fun v _ _ => v = .int .i64 0),
            PtrR 5 2,
            (fun _ g w => BoxR 5 (fun v _ _ => v = .agg #[.int .i64 xa, .int .i64 ya]) g w),
            (fun v _ _ => v = .int .i64 0)
          ] (fun i => match i with | 5 => some 6 | _ => none) (by kernel_rfl) (by kernel_rfl) ⟨stab_eq, stab_eq, stab_eq, stab_eq, stab_eq, stab_ptr, stab_box (firm_eq _) rfl, stab_eq, trivial⟩ ?steps ?fin
        case steps =>
          refine ⟨?_, ?_, ?_, ?_, ?_, ?_, ?_, ?_, trivial⟩
          · intro vs g w2 hI hF hR K hK
            simp only [Facts, fill, Act.put, z1, z2, z3, z4, z5, Nat.reduceAdd] at hF hR hK ⊢
            go_simp
            exact hK _ _ _ hI (Step.refl hI) rfl
          · intro vs g w2 hI hF hR K hK
            simp only [Facts, fill, Act.put, z1, z2, z3, z4, z5, Nat.reduceAdd] at hF hR hK ⊢
            obtain ⟨r0, -⟩ := hR
            generalize vs 0 = x0 at *
            subst r0
            go_simp
            refine (gPlPoint hI (fiB bxa (by decide)) (fiB bya (by decide)) (Bd.le bxa (by decide)) (Bd.le bya (by decide))).mono ?_
            rintro e w3 ⟨v3, rfl, hv, hb⟩
            exact hK _ _ _ (hI.call hb) (Step.call hI hb) hv
          · intro vs g w2 hI hF hR K hK
            simp only [Facts, fill, Act.put, z1, z2, z3, z4, z5, Nat.reduceAdd] at hF hR hK ⊢
            obtain ⟨r1, -⟩ := hR
            generalize vs 1 = x1 at *
            subst r1
            go_simp
            exact hK _ _ _ hI (Step.refl hI) rfl
          · intro vs g w2 hI hF hR K hK
            simp only [Facts, fill, Act.put, z1, z2, z3, z4, z5, Nat.reduceAdd] at hF hR hK ⊢
            obtain ⟨r2, -⟩ := hR
            generalize vs 2 = x2 at *
            subst r2
            go_simp
            exact hK _ _ _ hI (Step.refl hI) rfl
          · intro vs g w2 hI hF hR K hK
            simp only [Facts, fill, Act.put, z1, z2, z3, z4, z5, Nat.reduceAdd] at hF hR hK ⊢
            obtain ⟨r2, -⟩ := hR
            generalize vs 2 = x2 at *
            subst r2
            go_simp
            exact hK _ _ _ hI (Step.refl hI) rfl
          · intro vs g w2 hI hF hR K hK
            simp only [Facts, fill, Act.put, z1, z2, z3, z4, z5, Nat.reduceAdd] at hF hR hK ⊢
            go_simp
            exact hK _ _ _ (hI.alloc _ (hF (by decide)) _) (Step.alloc hI (hF (by decide)) _) ⟨_, rfl, more_at _ _ _, box2' _ _ _ _⟩
          · intro vs g w2 hI hF hR K hK
            simp only [Facts, fill, Act.put, z1, z2, z3, z4, z5, Nat.reduceAdd] at hF hR hK ⊢
            obtain ⟨r5, r3, -⟩ := hR
            generalize vs 5 = x5, vs 3 = x3 at *
            subst r3
            obtain ⟨k, rfl, hk, hbx⟩ := r5
            obtain ⟨⟨u0, k0⟩, f0⟩ := hbx 0 (by decide)
            obtain ⟨⟨u1, k1⟩, f1⟩ := hbx 1 (by decide)
            go_simp
            have ht := (((Touch.refl w2 k).set 0 (.int .i64 xa)).set 1 (.int .i64 ya))
            exact hK undef _ _ (hI.store (by decide) hk ht) (Step.store hI rfl hk ht) ⟨k, .agg #[.int .i64 xa, .int .i64 ya], hk, by rw [ht.size]; exact hI.lt _ _ hk, cells2 k0 k1 (.int .i64 xa) (.int .i64 ya), rfl⟩
          · intro vs g w2 hI hF hR K hK
            simp only [Facts, fill, Act.put, z1, z2, z3, z4, z5, Nat.reduceAdd] at hF hR hK ⊢
            obtain ⟨r4, -⟩ := hR
            generalize vs 4 = x4 at *
            subst r4
            go_simp
            exact hK _ _ _ hI (Step.refl hI) rfl
        case fin =>
          intro vs g wR6 hI hR
          have r5 := hR 5 (by decide)
          have r6 := hR 6 (by decide)
          have r7 := hR 7 (by decide)
          simp only [fill, Act.put, z1, z2, z3, z4, z5] at r5 r6 r7 ⊢
          clear hR
          generalize vs 5 = x5 at *
          generalize vs 6 = x6 at *
          generalize vs 7 = x7 at *
          have Ca_R6_0 := Lib.hid (hI.cell Ca_R4_0.out (fun _ h => by cases h))
          have Ca_R6_1 := Lib.hid (hI.cell Ca_R4_1.out (fun _ h => by cases h))
          obtain ⟨pR64, rfl, hkR64, -⟩ := r5
          obtain ⟨qR64, uR64, hqR64, -, hcR64, hrR64⟩ := r6
          rw [hkR64] at hqR64
          injection hqR64 with hqR64
          subst hqR64
          subst hrR64
          have CR64_R6_0 := Lib.hid (hcR64 0 _ rfl)
          have CR64_R6_1 := Lib.hid (hcR64 1 _ rfl)
          clear hcR64 hkR64
          subst r7
          have hBR6 := hI.below
          have HCR6 := hI.next HCR4
          clear hI
          go_upto_region 7 with (fail)
          refine box_plan0 (c := ⟨w, wR6, (fun _ => none)⟩) HCR6 [[], [(31, 0)], [(32, 1)], [(32, 1), (33, 2)], [(32, 1), (34, 3)], [(35, 4)], [(36, 5)], [(36, 5)], [(36, 5), (37, 6), (38, 7)], [(36, 5), (39, 8)], [(40, 9)]] [(31, 0), (32, 1), (33, 2), (34, 3), (35, 4), (36, 5), (37, 6), (38, 7), (39, 8), (40, 9), (2, 10)] [
              (fun v _ _ => v = .bool true),
              (fun v _ _ => v = .bool true),
              (fun v _ _ => v = .int .i64 0),
              (fun v _ _ => v = .bool true),
              (fun v _ _ => v = .bool true),
              (fun v _ _ => v = .bool true),
              (fun v _ _ => v = .agg #[.int .i64 xa, .int .i64 ya]),
              (fun v _ _ => v = .agg #[.int .i64 xa, .int .i64 ya]),
              (fun v _ _ => v = .bool true),
              (fun v _ _ => v = .bool true),
              (fun v _ _ => v = .bool true)
            ] (fun _ => none) (by kernel_rfl) (by kernel_rfl) ⟨stab_eq, stab_eq, stab_eq, stab_eq, stab_eq, stab_eq, stab_eq, stab_eq, stab_eq, stab_eq, stab_eq, trivial⟩ ?steps ?fin
          case steps =>
            refine ⟨?_, ?_, ?_, ?_, ?_, ?_, ?_, ?_, ?_, ?_, ?_, trivial⟩
            · intro vs g w2 hI hF hR K hK
              simp only [Facts, fill, Act.put, z1, z2, z3, z4, z5, Nat.reduceAdd] at hF hR hK ⊢
              go_simp
              refine (gAlive9 hI).mono ?_
              rintro e w3 ⟨v3, rfl, hv, hb⟩
              exact hK _ _ _ (hI.call hb) (Step.call hI hb) hv
            · intro vs g w2 hI hF hR K hK
              simp only [Facts, fill, Act.put, z1, z2, z3, z4, z5, Nat.reduceAdd] at hF hR hK ⊢
              obtain ⟨r0, -⟩ := hR
              generalize vs 0 = x0 at *
              subst r0
              go_simp
              exact hK _ _ _ hI (Step.refl hI) rfl
            · intro vs g w2 hI hF hR K hK
              simp only [Facts, fill, Act.put, z1, z2, z3, z4, z5, Nat.reduceAdd] at hF hR hK ⊢
              obtain ⟨r1, -⟩ := hR
              generalize vs 1 = x1 at *
              subst r1
              go_simp
              exact hK _ _ _ hI (Step.refl hI) rfl
            · intro vs g w2 hI hF hR K hK
              simp only [Facts, fill, Act.put, z1, z2, z3, z4, z5, Nat.reduceAdd] at hF hR hK ⊢
              obtain ⟨r1, r2, -⟩ := hR
              generalize vs 1 = x1, vs 2 = x2 at *
              subst r1 r2
              go_simp
              exact hK _ _ _ hI (Step.refl hI) rfl
            · intro vs g w2 hI hF hR K hK
              simp only [Facts, fill, Act.put, z1, z2, z3, z4, z5, Nat.reduceAdd] at hF hR hK ⊢
              obtain ⟨r1, r3, -⟩ := hR
              generalize vs 1 = x1, vs 3 = x3 at *
              subst r1 r3
              go_simp
              exact hK _ _ _ hI (Step.refl hI) rfl
            · intro vs g w2 hI hF hR K hK
              simp only [Facts, fill, Act.put, z1, z2, z3, z4, z5, Nat.reduceAdd] at hF hR hK ⊢
              obtain ⟨r4, -⟩ := hR
              generalize vs 4 = x4 at *
              subst r4
              go_simp
              exact hK _ _ _ hI (Step.refl hI) rfl
            · intro vs g w2 hI hF hR K hK
              simp only [Facts, fill, Act.put, z1, z2, z3, z4, z5, Nat.reduceAdd] at hF hR hK ⊢
              obtain ⟨r5, -⟩ := hR
              generalize vs 5 = x5 at *
              subst r5
              have k0 := hI.cell CR64_R6_0.out (fun _ h => by cases h)
              have k1 := hI.cell CR64_R6_1.out (fun _ h => by cases h)
              go_simp
              exact hK _ _ _ hI (Step.refl hI) rfl
            · intro vs g w2 hI hF hR K hK
              simp only [Facts, fill, Act.put, z1, z2, z3, z4, z5, Nat.reduceAdd] at hF hR hK ⊢
              obtain ⟨r5, -⟩ := hR
              generalize vs 5 = x5 at *
              subst r5
              have k0 := hI.cell Ca_R6_0.out (fun _ h => by cases h)
              have k1 := hI.cell Ca_R6_1.out (fun _ h => by cases h)
              go_simp
              exact hK _ _ _ hI (Step.refl hI) rfl
            · intro vs g w2 hI hF hR K hK
              simp only [Facts, fill, Act.put, z1, z2, z3, z4, z5, Nat.reduceAdd] at hF hR hK ⊢
              obtain ⟨r5, r6, r7, -⟩ := hR
              generalize vs 5 = x5, vs 6 = x6, vs 7 = x7 at *
              subst r5 r6 r7
              have hz0 : (xa == xa) = true := beq_self_eq_true _
              have hz1 : (ya == ya) = true := beq_self_eq_true _
              go_simp
              exact hK _ _ _ hI (Step.refl hI) rfl
            · intro vs g w2 hI hF hR K hK
              simp only [Facts, fill, Act.put, z1, z2, z3, z4, z5, Nat.reduceAdd] at hF hR hK ⊢
              obtain ⟨r5, r8, -⟩ := hR
              generalize vs 5 = x5, vs 8 = x8 at *
              subst r5 r8
              go_simp
              exact hK _ _ _ hI (Step.refl hI) rfl
            · intro vs g w2 hI hF hR K hK
              simp only [Facts, fill, Act.put, z1, z2, z3, z4, z5, Nat.reduceAdd] at hF hR hK ⊢
              obtain ⟨r9, -⟩ := hR
              generalize vs 9 = x9 at *
              subst r9
              go_simp
              exact hK _ _ _ hI (Step.refl hI) rfl
          case fin =>
            intro vs g wR7 hI hR
            have r10 := hR 10 (by decide)
            simp only [fill, Act.put, z1, z2, z3, z4, z5] at r10 ⊢
            clear hR
            generalize vs 10 = x10 at *
            have Ca_R7_0 := Lib.hid (hI.cell Ca_R6_0.out (fun _ h => by cases h))
            have Ca_R7_1 := Lib.hid (hI.cell Ca_R6_1.out (fun _ h => by cases h))
            have CR64_R7_0 := Lib.hid (hI.cell CR64_R6_0.out (fun _ h => by cases h))
            have CR64_R7_1 := Lib.hid (hI.cell CR64_R6_1.out (fun _ h => by cases h))
            subst r10
            have hBR7 := hI.below
            have HCR7 := hI.next HCR6
            clear hI
            go_wp2
            go_ret
            exact ⟨rfl, hBR7⟩
theorem law_planeConverts (xa ya : Int) (w : World) (sxa : S xa) (sya : S ya) :
    Calls Try.prog 6 #[.agg #[.int .i64 xa, .int .i64 ya]] w fun e w' => e = .returned (.bool true) ∧ Below w.heap.size w w' := by
  rcases ha : smallB xa ya with _ | _
  · exact law9V_F xa ya sxa sya w ha
  · exact law9V_T xa ya sxa sya w ha
end Go.Proofs.Ythdboeegngcfeaa
