/-
  The examples of layer 8. (Written by law5.py.)
-/
import Derived.Test.YtckhgamojpbcgaaDoorSegmentC
namespace Go.Proofs.YtckhgamojpbcgaaDoor
open Go.RowKit
set_option maxRecDepth 100000
set_option linter.unusedVariables false
set_option linter.unusedSimpArgs false

set_option maxRecDepth 100000 in
set_option maxHeartbeats 4000000 in
theorem gP8 {c0 : Ctx} {g0 : Gh} {w : World} {a b : Int} (hI0 : RInv c0 g0 w) :
    Calls Tryd.prog 19 #[.int .i64 a, .int .i64 b] w (Gives (fun v _ _ => v = .agg #[.int .i64 a, .int .i64 b]) g0 w) := by
  obtain ⟨W, hW⟩ : ∃ W, W = w.alloc (.cells #[.int .i64 0, .int .i64 0] 28) := ⟨_, rfl⟩
  have hb0 : Below w.heap.size w W := by rw [hW]; exact ((Below.refl _ _).alloc (Nat.le_refl _) _)
  have HOK := Ctx.ok_lift (k := w.heap.size) hI0 hb0 (by omega) (by rw [hW]; simp; try omega)
  have HBX := Lib.hid (show HasBox W (w.heap.size) 2 by rw [hW]; have := box2' (w) (.int .i64 0) (.int .i64 0) 28; simpa using this)
  have HW := Lib.hid hW
  clear hW
  go_enter Tryd.func19, Tryd.ntmps19
  go_upto_region 1 with (fail)
  rw [← HW.out]
  refine box_plan0 (c := ⟨w, W, (lift g0 (w.heap.size))⟩) HOK [[], [], [(5, 0), (6, 1)], [(7, 2)]] [(5, 0), (6, 1), (7, 2)] [
      (fun v _ _ => v = .int .i64 a),
      (fun v _ _ => v = .int .i64 b),
      (fun v _ _ => v = .agg #[.int .i64 a, .int .i64 b]),
      (fun _ g w => BoxR 1000 (fun v _ _ => v = .agg #[.int .i64 a, .int .i64 b]) g w)
    ] (fun i => match i with | 1000 => some 3 | _ => none) (by kernel_rfl) (by kernel_rfl) ⟨stab_eq, stab_eq, stab_eq, stab_box (firm_eq _) rfl, trivial⟩ ?steps ?fin
  case steps =>
    refine ⟨?_, ?_, ?_, ?_, trivial⟩
    · intro vs g w2 hI hF hR K hK
      simp only [Facts, fill, Act.put, z1, z2, z3, z4, z5, Nat.reduceAdd] at hF hR hK ⊢
      go_simp
      exact hK _ _ _ hI (Step.refl hI) rfl
    · intro vs g w2 hI hF hR K hK
      simp only [Facts, fill, Act.put, z1, z2, z3, z4, z5, Nat.reduceAdd] at hF hR hK ⊢
      go_simp
      exact hK _ _ _ hI (Step.refl hI) rfl
    · intro vs g w2 hI hF hR K hK
      simp only [Facts, fill, Act.put, z1, z2, z3, z4, z5, Nat.reduceAdd] at hF hR hK ⊢
      obtain ⟨r0, r1, -⟩ := hR
      generalize vs 0 = x0, vs 1 = x1 at *
      subst r0 r1
      go_simp
      exact hK _ _ _ hI (Step.refl hI) rfl
    · intro vs g w2 hI hF hR K hK
      simp only [Facts, fill, Act.put, z1, z2, z3, z4, z5, Nat.reduceAdd] at hF hR hK ⊢
      obtain ⟨r2, -⟩ := hR
      generalize vs 2 = x2 at *
      subst r2
      have hk := hI.keep0 1000 _ (lift_at g0 (w.heap.size))
      have hbx := hI.box0 1000 _ 2 (lift_at g0 (w.heap.size)) HBX.out
      obtain ⟨⟨u0, k0⟩, f0⟩ := hbx 0 (by decide)
      obtain ⟨⟨u1, k1⟩, f1⟩ := hbx 1 (by decide)
      go_simp
      have ht := (((Touch.refl w2 w.heap.size).set 0 (.int .i64 a)).set 1 (.int .i64 b))
      exact hK undef _ _ (hI.store (by decide) hk ht) (Step.store hI rfl hk ht) ⟨w.heap.size, .agg #[.int .i64 a, .int .i64 b], hk, by rw [ht.size]; exact hI.lt _ _ hk, cells2 k0 k1 (.int .i64 a) (.int .i64 b), rfl⟩
  case fin =>
    intro vs g wR1 hI hR
    have r3 := hR 3 (by decide)
    simp only [fill, Act.put, z1, z2, z3, z4, z5] at r3 ⊢
    clear hR
    generalize vs 3 = x3 at *
    have hkR14 := hI.keep0 1000 _ (lift_at g0 (w.heap.size))
    obtain ⟨qR14, uR14, hqR14, -, hcR14, hrR14⟩ := r3
    rw [hkR14] at hqR14
    injection hqR14 with hqR14
    subst hqR14
    subst hrR14
    have CR14_R1_0 := Lib.hid (hcR14 0 _ rfl)
    have CR14_R1_1 := Lib.hid (hcR14 1 _ rfl)
    clear hcR14 hkR14
    have hBR1 := hI.below
    have HCR1 := hI.next HOK
    clear hI
    go_wp2
    exact bodyPost_ret (v := .agg #[.int .i64 a, .int .i64 b]) (by simp [results, Tryd.results19, go_sem, CR14_R1_0.out, CR14_R1_1.out]) rfl ⟨_, rfl, rfl, hBR1⟩
set_option maxHeartbeats 4000000 in
theorem alive8_any (w : World) (hw : Wts w) :
    Calls Tryd.prog 9 #[] w fun e w' => e = .returned (.bool true) ∧ Below w.heap.size w w' := by
  obtain ⟨W, hW⟩ : ∃ W, W = w := ⟨_, rfl⟩
  have hb0 : Below w.heap.size w W := by rw [hW]; exact Below.refl _ _
  have HW := Lib.hid hW
  go_enter Tryd.func9, Tryd.ntmps9
  go_upto_region 1 with (fail)
  rw [← HW.out]
  refine box_plan0 (c := ⟨w, W, (fun _ => none)⟩) (Ctx.ok_none hb0) [[], [], [(1, 1), (3, 0)], []] [(3, 0), (1, 1), (2, 3)] [
      (fun v _ _ => v = .agg #[.int .i64 0, .int .i64 0]),
      PtrR 1 2,
      (fun _ g w => BoxR 1 (fun v _ _ => v = .agg #[.int .i64 0, .int .i64 0]) g w),
      (fun v _ _ => v = .func (.func 19) #[] #[])
    ] (fun i => match i with | 1 => some 2 | _ => none) (by kernel_rfl) (by kernel_rfl) ⟨stab_eq, stab_ptr, stab_box (firm_eq _) rfl, stab_eq, trivial⟩ ?steps ?fin
  case steps =>
    refine ⟨?_, ?_, ?_, ?_, trivial⟩
    · intro vs g w2 hI hF hR K hK
      simp only [Facts, fill, Act.put, z1, z2, z3, z4, z5, Nat.reduceAdd] at hF hR hK ⊢
      go_simp
      exact hK _ _ _ hI (Step.refl hI) rfl
    · intro vs g w2 hI hF hR K hK
      simp only [Facts, fill, Act.put, z1, z2, z3, z4, z5, Nat.reduceAdd] at hF hR hK ⊢
      go_simp
      exact hK _ _ _ (hI.alloc _ (hF (by decide)) _) (Step.alloc hI (hF (by decide)) _) ⟨_, rfl, more_at _ _ _, box2' _ _ _ _⟩
    · intro vs g w2 hI hF hR K hK
      simp only [Facts, fill, Act.put, z1, z2, z3, z4, z5, Nat.reduceAdd] at hF hR hK ⊢
      obtain ⟨r1, r0, -⟩ := hR
      generalize vs 1 = x1, vs 0 = x0 at *
      subst r0
      obtain ⟨k, rfl, hk, hbx⟩ := r1
      obtain ⟨⟨u0, k0⟩, f0⟩ := hbx 0 (by decide)
      obtain ⟨⟨u1, k1⟩, f1⟩ := hbx 1 (by decide)
      go_simp
      have ht := (((Touch.refl w2 k).set 0 (.int .i64 0)).set 1 (.int .i64 0))
      exact hK undef _ _ (hI.store (by decide) hk ht) (Step.store hI rfl hk ht) ⟨k, .agg #[.int .i64 0, .int .i64 0], hk, by rw [ht.size]; exact hI.lt _ _ hk, cells2 k0 k1 (.int .i64 0) (.int .i64 0), rfl⟩
    · intro vs g w2 hI hF hR K hK
      simp only [Facts, fill, Act.put, z1, z2, z3, z4, z5, Nat.reduceAdd] at hF hR hK ⊢
      go_simp
      exact hK _ _ _ hI (Step.refl hI) rfl
  case fin =>
    intro vs g wR1 hI hR
    have r1 := hR 1 (by decide)
    have r2 := hR 2 (by decide)
    have r3 := hR 3 (by decide)
    simp only [fill, Act.put, z1, z2, z3, z4, z5] at r1 r2 r3 ⊢
    clear hR
    generalize vs 1 = x1 at *
    generalize vs 2 = x2 at *
    generalize vs 3 = x3 at *
    obtain ⟨pR11, rfl, hkR11, -⟩ := r1
    obtain ⟨qR11, uR11, hqR11, -, hcR11, hrR11⟩ := r2
    rw [hkR11] at hqR11
    injection hqR11 with hqR11
    subst hqR11
    subst hrR11
    have CR11_R1_0 := Lib.hid (hcR11 0 _ rfl)
    have CR11_R1_1 := Lib.hid (hcR11 1 _ rfl)
    clear hcR11 hkR11
    subst r3
    have hBR1 := hI.below
    have HCR1 := hI.next (Ctx.ok_none hb0)
    clear hI
    go_upto_region 2 with (fail)
    refine box_plan (c := ⟨w, wR1, (fun _ => none)⟩) HCR1 (by kernel_rfl) [[], [], [(5, 1)], [], [(7, 3)], [(4, 0), (6, 2), (8, 4)], [(9, 5)], [(10, 6)], [(11, 7)], [(11, 7)], [(11, 7), (13, 9)], [(11, 7)], [(11, 7), (15, 11)], [(11, 7), (12, 8), (14, 10), (16, 12)], [(11, 7), (17, 13)], [(11, 7), (18, 14)], [(19, 15)], [(20, 16)], [(20, 16)], [(20, 16), (22, 18)], [(20, 16)], [(20, 16), (24, 20)], [(20, 16), (21, 17), (23, 19), (25, 21)], [(20, 16), (26, 22)], [(20, 16), (27, 23)], [(28, 24)], [(29, 25)], [(29, 25)], [(29, 25), (31, 27)], [(29, 25)], [(29, 25), (33, 29)], [(29, 25)], [(29, 25), (35, 31)], [(29, 25), (30, 26), (32, 28), (34, 30), (36, 32)], [(29, 25), (37, 33)], [(29, 25), (38, 34)], [(39, 35)], [(40, 36)], [(40, 36)], [(40, 36), (42, 38)], [(40, 36)], [(40, 36), (44, 40)], [(40, 36)], [(40, 36), (46, 42)], [(40, 36), (41, 37), (43, 39), (45, 41), (47, 43)], [(40, 36), (48, 44)], [(40, 36), (49, 45)], [(50, 46)], [(51, 47)], [(51, 47)], [(51, 47), (53, 49)], [(51, 47)], [(51, 47), (55, 51)], [(51, 47)], [(51, 47), (57, 53)], [(51, 47), (52, 48), (54, 50), (56, 52), (58, 54)], [(51, 47), (59, 55)], [(51, 47), (60, 56)], [(61, 57)], [(62, 58)], [(62, 58), (63, 59)], [(62, 58), (64, 60)], [(65, 61)]] [(4, 0), (5, 1), (6, 2), (7, 3), (8, 4), (9, 5), (10, 6), (11, 7), (12, 8), (13, 9), (14, 10), (15, 11), (16, 12), (17, 13), (18, 14), (19, 15), (20, 16), (21, 17), (22, 18), (23, 19), (24, 20), (25, 21), (26, 22), (27, 23), (28, 24), (29, 25), (30, 26), (31, 27), (32, 28), (33, 29), (34, 30), (35, 31), (36, 32), (37, 33), (38, 34), (39, 35), (40, 36), (41, 37), (42, 38), (43, 39), (44, 40), (45, 41), (46, 42), (47, 43), (48, 44), (49, 45), (50, 46), (51, 47), (52, 48), (53, 49), (54, 50), (55, 51), (56, 52), (57, 53), (58, 54), (59, 55), (60, 56), (61, 57), (62, 58), (63, 59), (64, 60), (65, 61), (0, 62)] [
        (fun v _ _ => v = .agg #[.int .i64 0, .int .i64 0]),
        (fun v _ _ => v = .func (.func 19) #[] #[]),
        (fun v _ _ => v = .agg #[.int .i64 4, .int .i64 2]),
        (fun v _ _ => v = .func (.func 19) #[] #[]),
        (fun v _ _ => v = .agg #[.int .i64 2, .int .i64 1]),
        (fun v _ _ => v = .int .u64 (mk (contB 0 0 4 2 2 1))),
        (fun v _ _ => v = .bool true),
        (fun v _ _ => v = .bool true),
        (fun v _ _ => v = .agg #[.int .i64 0, .int .i64 0]),
        (fun v _ _ => v = .func (.func 19) #[] #[]),
        (fun v _ _ => v = .agg #[.int .i64 4, .int .i64 2]),
        (fun v _ _ => v = .func (.func 19) #[] #[]),
        (fun v _ _ => v = .agg #[.int .i64 3, .int .i64 1]),
        (fun v _ _ => v = .int .u64 (mk (contB 0 0 4 2 3 1))),
        (fun v _ _ => v = .bool true),
        (fun v _ _ => v = .bool true),
        (fun v _ _ => v = .bool true),
        (fun v _ _ => v = .agg #[.int .i64 0, .int .i64 0]),
        (fun v _ _ => v = .func (.func 19) #[] #[]),
        (fun v _ _ => v = .agg #[.int .i64 4, .int .i64 2]),
        (fun v _ _ => v = .func (.func 19) #[] #[]),
        (fun v _ _ => v = .agg #[.int .i64 6, .int .i64 3]),
        (fun v _ _ => v = .int .u64 (mk (contB 0 0 4 2 6 3))),
        (fun v _ _ => v = .bool true),
        (fun v _ _ => v = .bool true),
        (fun v _ _ => v = .bool true),
        (fun v _ _ => v = .agg #[.int .i64 0, .int .i64 0]),
        (fun v _ _ => v = .func (.func 19) #[] #[]),
        (fun v _ _ => v = .agg #[.int .i64 2, .int .i64 2]),
        (fun v _ _ => v = .func (.func 19) #[] #[]),
        (fun v _ _ => v = .agg #[.int .i64 0, .int .i64 2]),
        (fun v _ _ => v = .func (.func 19) #[] #[]),
        (fun v _ _ => v = .agg #[.int .i64 2, .int .i64 0]),
        (fun v _ _ => v = .int .u64 (mk (crossB 0 0 2 2 0 2 2 0))),
        (fun v _ _ => v = .bool true),
        (fun v _ _ => v = .bool true),
        (fun v _ _ => v = .bool true),
        (fun v _ _ => v = .agg #[.int .i64 0, .int .i64 0]),
        (fun v _ _ => v = .func (.func 19) #[] #[]),
        (fun v _ _ => v = .agg #[.int .i64 2, .int .i64 0]),
        (fun v _ _ => v = .func (.func 19) #[] #[]),
        (fun v _ _ => v = .agg #[.int .i64 2, .int .i64 0]),
        (fun v _ _ => v = .func (.func 19) #[] #[]),
        (fun v _ _ => v = .agg #[.int .i64 3, .int .i64 1]),
        (fun v _ _ => v = .int .u64 (mk (meetB 0 0 2 0 2 0 3 1))),
        (fun v _ _ => v = .bool true),
        (fun v _ _ => v = .bool true),
        (fun v _ _ => v = .bool true),
        (fun v _ _ => v = .agg #[.int .i64 0, .int .i64 0]),
        (fun v _ _ => v = .func (.func 19) #[] #[]),
        (fun v _ _ => v = .agg #[.int .i64 2, .int .i64 0]),
        (fun v _ _ => v = .func (.func 19) #[] #[]),
        (fun v _ _ => v = .agg #[.int .i64 2, .int .i64 0]),
        (fun v _ _ => v = .func (.func 19) #[] #[]),
        (fun v _ _ => v = .agg #[.int .i64 3, .int .i64 1]),
        (fun v _ _ => v = .int .u64 (mk (crossB 0 0 2 0 2 0 3 1))),
        (fun v _ _ => v = .bool true),
        (fun v _ _ => v = .bool true),
        (fun v _ _ => v = .bool true),
        (fun v _ _ => v = .int .u64 (mk (withB 5 1 3))),
        (fun v _ _ => v = .bool true),
        (fun v _ _ => v = .bool true),
        (fun v _ _ => v = .bool true)
      ] (fun _ => none) (by kernel_rfl) (by kernel_rfl) ⟨stab_eq, stab_eq, stab_eq, stab_eq, stab_eq, stab_eq, stab_eq, stab_eq, stab_eq, stab_eq, stab_eq, stab_eq, stab_eq, stab_eq, stab_eq, stab_eq, stab_eq, stab_eq, stab_eq, stab_eq, stab_eq, stab_eq, stab_eq, stab_eq, stab_eq, stab_eq, stab_eq, stab_eq, stab_eq, stab_eq, stab_eq, stab_eq, stab_eq, stab_eq, stab_eq, stab_eq, stab_eq, stab_eq, stab_eq, stab_eq, stab_eq, stab_eq, stab_eq, stab_eq, stab_eq, stab_eq, stab_eq, stab_eq, stab_eq, stab_eq, stab_eq, stab_eq, stab_eq, stab_eq, stab_eq, stab_eq, stab_eq, stab_eq, stab_eq, stab_eq, stab_eq, stab_eq, stab_eq, trivial⟩ ?steps ?fin
    case steps =>
      refine ⟨?_, ?_, ?_, ?_, ?_, ?_, ?_, ?_, ?_, ?_, ?_, ?_, ?_, ?_, ?_, ?_, ?_, ?_, ?_, ?_, ?_, ?_, ?_, ?_, ?_, ?_, ?_, ?_, ?_, ?_, ?_, ?_, ?_, ?_, ?_, ?_, ?_, ?_, ?_, ?_, ?_, ?_, ?_, ?_, ?_, ?_, ?_, ?_, ?_, ?_, ?_, ?_, ?_, ?_, ?_, ?_, ?_, ?_, ?_, ?_, ?_, ?_, ?_, trivial⟩
      · intro vs g w2 hI hF hR K hK
        simp only [Facts, fill, Act.put, z1, z2, z3, z4, z5, Nat.reduceAdd] at hF hR hK ⊢
        have k0 := hI.cell CR11_R1_0.out (fun _ h => by cases h)
        have k1 := hI.cell CR11_R1_1.out (fun _ h => by cases h)
        go_simp
        exact hK _ _ _ hI (Step.refl hI) rfl
      · intro vs g w2 hI hF hR K hK
        simp only [Facts, fill, Act.put, z1, z2, z3, z4, z5, Nat.reduceAdd] at hF hR hK ⊢
        go_simp
        exact hK _ _ _ hI (Step.refl hI) rfl
      · intro vs g w2 hI hF hR K hK
        simp only [Facts, fill, Act.put, z1, z2, z3, z4, z5, Nat.reduceAdd] at hF hR hK ⊢
        obtain ⟨r1, -⟩ := hR
        generalize vs 1 = x1 at *
        subst r1
        go_simp
        refine (gP8 hI).mono ?_
        rintro e w3 ⟨v3, rfl, hv, hb⟩
        exact hK _ _ _ (hI.call hb) (Step.call hI hb) hv
      · intro vs g w2 hI hF hR K hK
        simp only [Facts, fill, Act.put, z1, z2, z3, z4, z5, Nat.reduceAdd] at hF hR hK ⊢
        go_simp
        exact hK _ _ _ hI (Step.refl hI) rfl
      · intro vs g w2 hI hF hR K hK
        simp only [Facts, fill, Act.put, z1, z2, z3, z4, z5, Nat.reduceAdd] at hF hR hK ⊢
        obtain ⟨r3, -⟩ := hR
        generalize vs 3 = x3 at *
        subst r3
        go_simp
        refine (gP8 hI).mono ?_
        rintro e w3 ⟨v3, rfl, hv, hb⟩
        exact hK _ _ _ (hI.call hb) (Step.call hI hb) hv
      · intro vs g w2 hI hF hR K hK
        simp only [Facts, fill, Act.put, z1, z2, z3, z4, z5, Nat.reduceAdd] at hF hR hK ⊢
        obtain ⟨r0, r2, r4, -⟩ := hR
        generalize vs 0 = x0, vs 2 = x2, vs 4 = x4 at *
        subst r0 r2 r4
        go_simp
        refine (gSegContains hI hw (by first | assumption | (unfold S; decide)) (by first | assumption | (unfold S; decide)) (by first | assumption | (unfold S; decide)) (by first | assumption | (unfold S; decide)) (by first | assumption | (unfold S; decide)) (by first | assumption | (unfold S; decide))).mono ?_
        rintro e w3 ⟨v3, rfl, hv, hb⟩
        exact hK _ _ _ (hI.call hb) (Step.call hI hb) hv
      · intro vs g w2 hI hF hR K hK
        simp only [Facts, fill, Act.put, z1, z2, z3, z4, z5, Nat.reduceAdd] at hF hR hK ⊢
        obtain ⟨r5, -⟩ := hR
        generalize vs 5 = x5 at *
        subst r5
        have hz : ((mk (contB 0 0 4 2 2 1)) == 18446744073709551615) = true := (by decide +kernel)
        go_simp
        exact hK _ _ _ hI (Step.refl hI) rfl
      · intro vs g w2 hI hF hR K hK
        simp only [Facts, fill, Act.put, z1, z2, z3, z4, z5, Nat.reduceAdd] at hF hR hK ⊢
        obtain ⟨r6, -⟩ := hR
        generalize vs 6 = x6 at *
        subst r6
        go_simp
        exact hK _ _ _ hI (Step.refl hI) rfl
      · intro vs g w2 hI hF hR K hK
        simp only [Facts, fill, Act.put, z1, z2, z3, z4, z5, Nat.reduceAdd] at hF hR hK ⊢
        obtain ⟨r7, -⟩ := hR
        generalize vs 7 = x7 at *
        subst r7
        have k0 := hI.cell CR11_R1_0.out (fun _ h => by cases h)
        have k1 := hI.cell CR11_R1_1.out (fun _ h => by cases h)
        go_simp
        exact hK _ _ _ hI (Step.refl hI) rfl
      · intro vs g w2 hI hF hR K hK
        simp only [Facts, fill, Act.put, z1, z2, z3, z4, z5, Nat.reduceAdd] at hF hR hK ⊢
        obtain ⟨r7, -⟩ := hR
        generalize vs 7 = x7 at *
        subst r7
        go_simp
        exact hK _ _ _ hI (Step.refl hI) rfl
      · intro vs g w2 hI hF hR K hK
        simp only [Facts, fill, Act.put, z1, z2, z3, z4, z5, Nat.reduceAdd] at hF hR hK ⊢
        obtain ⟨r7, r9, -⟩ := hR
        generalize vs 7 = x7, vs 9 = x9 at *
        subst r7 r9
        go_simp
        refine (gP8 hI).mono ?_
        rintro e w3 ⟨v3, rfl, hv, hb⟩
        exact hK _ _ _ (hI.call hb) (Step.call hI hb) hv
      · intro vs g w2 hI hF hR K hK
        simp only [Facts, fill, Act.put, z1, z2, z3, z4, z5, Nat.reduceAdd] at hF hR hK ⊢
        obtain ⟨r7, -⟩ := hR
        generalize vs 7 = x7 at *
        subst r7
        go_simp
        exact hK _ _ _ hI (Step.refl hI) rfl
      · intro vs g w2 hI hF hR K hK
        simp only [Facts, fill, Act.put, z1, z2, z3, z4, z5, Nat.reduceAdd] at hF hR hK ⊢
        obtain ⟨r7, r11, -⟩ := hR
        generalize vs 7 = x7, vs 11 = x11 at *
        subst r7 r11
        go_simp
        refine (gP8 hI).mono ?_
        rintro e w3 ⟨v3, rfl, hv, hb⟩
        exact hK _ _ _ (hI.call hb) (Step.call hI hb) hv
      · intro vs g w2 hI hF hR K hK
        simp only [Facts, fill, Act.put, z1, z2, z3, z4, z5, Nat.reduceAdd] at hF hR hK ⊢
        obtain ⟨r7, r8, r10, r12, -⟩ := hR
        generalize vs 7 = x7, vs 8 = x8, vs 10 = x10, vs 12 = x12 at *
        subst r7 r8 r10 r12
        go_simp
        refine (gSegContains hI hw (by first | assumption | (unfold S; decide)) (by first | assumption | (unfold S; decide)) (by first | assumption | (unfold S; decide)) (by first | assumption | (unfold S; decide)) (by first | assumption | (unfold S; decide)) (by first | assumption | (unfold S; decide))).mono ?_
        rintro e w3 ⟨v3, rfl, hv, hb⟩
        exact hK _ _ _ (hI.call hb) (Step.call hI hb) hv
      · intro vs g w2 hI hF hR K hK
        simp only [Facts, fill, Act.put, z1, z2, z3, z4, z5, Nat.reduceAdd] at hF hR hK ⊢
        obtain ⟨r7, r13, -⟩ := hR
        generalize vs 7 = x7, vs 13 = x13 at *
        subst r7 r13
        have hz : ((mk (contB 0 0 4 2 3 1)) == 0) = true := (by decide +kernel)
        go_simp
        exact hK _ _ _ hI (Step.refl hI) rfl
      · intro vs g w2 hI hF hR K hK
        simp only [Facts, fill, Act.put, z1, z2, z3, z4, z5, Nat.reduceAdd] at hF hR hK ⊢
        obtain ⟨r7, r14, -⟩ := hR
        generalize vs 7 = x7, vs 14 = x14 at *
        subst r7 r14
        go_simp
        exact hK _ _ _ hI (Step.refl hI) rfl
      · intro vs g w2 hI hF hR K hK
        simp only [Facts, fill, Act.put, z1, z2, z3, z4, z5, Nat.reduceAdd] at hF hR hK ⊢
        obtain ⟨r15, -⟩ := hR
        generalize vs 15 = x15 at *
        subst r15
        go_simp
        exact hK _ _ _ hI (Step.refl hI) rfl
      · intro vs g w2 hI hF hR K hK
        simp only [Facts, fill, Act.put, z1, z2, z3, z4, z5, Nat.reduceAdd] at hF hR hK ⊢
        obtain ⟨r16, -⟩ := hR
        generalize vs 16 = x16 at *
        subst r16
        have k0 := hI.cell CR11_R1_0.out (fun _ h => by cases h)
        have k1 := hI.cell CR11_R1_1.out (fun _ h => by cases h)
        go_simp
        exact hK _ _ _ hI (Step.refl hI) rfl
      · intro vs g w2 hI hF hR K hK
        simp only [Facts, fill, Act.put, z1, z2, z3, z4, z5, Nat.reduceAdd] at hF hR hK ⊢
        obtain ⟨r16, -⟩ := hR
        generalize vs 16 = x16 at *
        subst r16
        go_simp
        exact hK _ _ _ hI (Step.refl hI) rfl
      · intro vs g w2 hI hF hR K hK
        simp only [Facts, fill, Act.put, z1, z2, z3, z4, z5, Nat.reduceAdd] at hF hR hK ⊢
        obtain ⟨r16, r18, -⟩ := hR
        generalize vs 16 = x16, vs 18 = x18 at *
        subst r16 r18
        go_simp
        refine (gP8 hI).mono ?_
        rintro e w3 ⟨v3, rfl, hv, hb⟩
        exact hK _ _ _ (hI.call hb) (Step.call hI hb) hv
      · intro vs g w2 hI hF hR K hK
        simp only [Facts, fill, Act.put, z1, z2, z3, z4, z5, Nat.reduceAdd] at hF hR hK ⊢
        obtain ⟨r16, -⟩ := hR
        generalize vs 16 = x16 at *
        subst r16
        go_simp
        exact hK _ _ _ hI (Step.refl hI) rfl
      · intro vs g w2 hI hF hR K hK
        simp only [Facts, fill, Act.put, z1, z2, z3, z4, z5, Nat.reduceAdd] at hF hR hK ⊢
        obtain ⟨r16, r20, -⟩ := hR
        generalize vs 16 = x16, vs 20 = x20 at *
        subst r16 r20
        go_simp
        refine (gP8 hI).mono ?_
        rintro e w3 ⟨v3, rfl, hv, hb⟩
        exact hK _ _ _ (hI.call hb) (Step.call hI hb) hv
      · intro vs g w2 hI hF hR K hK
        simp only [Facts, fill, Act.put, z1, z2, z3, z4, z5, Nat.reduceAdd] at hF hR hK ⊢
        obtain ⟨r16, r17, r19, r21, -⟩ := hR
        generalize vs 16 = x16, vs 17 = x17, vs 19 = x19, vs 21 = x21 at *
        subst r16 r17 r19 r21
        go_simp
        refine (gSegContains hI hw (by first | assumption | (unfold S; decide)) (by first | assumption | (unfold S; decide)) (by first | assumption | (unfold S; decide)) (by first | assumption | (unfold S; decide)) (by first | assumption | (unfold S; decide)) (by first | assumption | (unfold S; decide))).mono ?_
        rintro e w3 ⟨v3, rfl, hv, hb⟩
        exact hK _ _ _ (hI.call hb) (Step.call hI hb) hv
      · intro vs g w2 hI hF hR K hK
        simp only [Facts, fill, Act.put, z1, z2, z3, z4, z5, Nat.reduceAdd] at hF hR hK ⊢
        obtain ⟨r16, r22, -⟩ := hR
        generalize vs 16 = x16, vs 22 = x22 at *
        subst r16 r22
        have hz : ((mk (contB 0 0 4 2 6 3)) == 0) = true := (by decide +kernel)
        go_simp
        exact hK _ _ _ hI (Step.refl hI) rfl
      · intro vs g w2 hI hF hR K hK
        simp only [Facts, fill, Act.put, z1, z2, z3, z4, z5, Nat.reduceAdd] at hF hR hK ⊢
        obtain ⟨r16, r23, -⟩ := hR
        generalize vs 16 = x16, vs 23 = x23 at *
        subst r16 r23
        go_simp
        exact hK _ _ _ hI (Step.refl hI) rfl
      · intro vs g w2 hI hF hR K hK
        simp only [Facts, fill, Act.put, z1, z2, z3, z4, z5, Nat.reduceAdd] at hF hR hK ⊢
        obtain ⟨r24, -⟩ := hR
        generalize vs 24 = x24 at *
        subst r24
        go_simp
        exact hK _ _ _ hI (Step.refl hI) rfl
      · intro vs g w2 hI hF hR K hK
        simp only [Facts, fill, Act.put, z1, z2, z3, z4, z5, Nat.reduceAdd] at hF hR hK ⊢
        obtain ⟨r25, -⟩ := hR
        generalize vs 25 = x25 at *
        subst r25
        have k0 := hI.cell CR11_R1_0.out (fun _ h => by cases h)
        have k1 := hI.cell CR11_R1_1.out (fun _ h => by cases h)
        go_simp
        exact hK _ _ _ hI (Step.refl hI) rfl
      · intro vs g w2 hI hF hR K hK
        simp only [Facts, fill, Act.put, z1, z2, z3, z4, z5, Nat.reduceAdd] at hF hR hK ⊢
        obtain ⟨r25, -⟩ := hR
        generalize vs 25 = x25 at *
        subst r25
        go_simp
        exact hK _ _ _ hI (Step.refl hI) rfl
      · intro vs g w2 hI hF hR K hK
        simp only [Facts, fill, Act.put, z1, z2, z3, z4, z5, Nat.reduceAdd] at hF hR hK ⊢
        obtain ⟨r25, r27, -⟩ := hR
        generalize vs 25 = x25, vs 27 = x27 at *
        subst r25 r27
        go_simp
        refine (gP8 hI).mono ?_
        rintro e w3 ⟨v3, rfl, hv, hb⟩
        exact hK _ _ _ (hI.call hb) (Step.call hI hb) hv
      · intro vs g w2 hI hF hR K hK
        simp only [Facts, fill, Act.put, z1, z2, z3, z4, z5, Nat.reduceAdd] at hF hR hK ⊢
        obtain ⟨r25, -⟩ := hR
        generalize vs 25 = x25 at *
        subst r25
        go_simp
        exact hK _ _ _ hI (Step.refl hI) rfl
      · intro vs g w2 hI hF hR K hK
        simp only [Facts, fill, Act.put, z1, z2, z3, z4, z5, Nat.reduceAdd] at hF hR hK ⊢
        obtain ⟨r25, r29, -⟩ := hR
        generalize vs 25 = x25, vs 29 = x29 at *
        subst r25 r29
        go_simp
        refine (gP8 hI).mono ?_
        rintro e w3 ⟨v3, rfl, hv, hb⟩
        exact hK _ _ _ (hI.call hb) (Step.call hI hb) hv
      · intro vs g w2 hI hF hR K hK
        simp only [Facts, fill, Act.put, z1, z2, z3, z4, z5, Nat.reduceAdd] at hF hR hK ⊢
        obtain ⟨r25, -⟩ := hR
        generalize vs 25 = x25 at *
        subst r25
        go_simp
        exact hK _ _ _ hI (Step.refl hI) rfl
      · intro vs g w2 hI hF hR K hK
        simp only [Facts, fill, Act.put, z1, z2, z3, z4, z5, Nat.reduceAdd] at hF hR hK ⊢
        obtain ⟨r25, r31, -⟩ := hR
        generalize vs 25 = x25, vs 31 = x31 at *
        subst r25 r31
        go_simp
        refine (gP8 hI).mono ?_
        rintro e w3 ⟨v3, rfl, hv, hb⟩
        exact hK _ _ _ (hI.call hb) (Step.call hI hb) hv
      · intro vs g w2 hI hF hR K hK
        simp only [Facts, fill, Act.put, z1, z2, z3, z4, z5, Nat.reduceAdd] at hF hR hK ⊢
        obtain ⟨r25, r26, r28, r30, r32, -⟩ := hR
        generalize vs 25 = x25, vs 26 = x26, vs 28 = x28, vs 30 = x30, vs 32 = x32 at *
        subst r25 r26 r28 r30 r32
        go_simp
        refine (gSegCrosses hI hw (by first | assumption | (unfold S; decide)) (by first | assumption | (unfold S; decide)) (by first | assumption | (unfold S; decide)) (by first | assumption | (unfold S; decide)) (by first | assumption | (unfold S; decide)) (by first | assumption | (unfold S; decide)) (by first | assumption | (unfold S; decide)) (by first | assumption | (unfold S; decide))).mono ?_
        rintro e w3 ⟨v3, rfl, hv, hb⟩
        exact hK _ _ _ (hI.call hb) (Step.call hI hb) hv
      · intro vs g w2 hI hF hR K hK
        simp only [Facts, fill, Act.put, z1, z2, z3, z4, z5, Nat.reduceAdd] at hF hR hK ⊢
        obtain ⟨r25, r33, -⟩ := hR
        generalize vs 25 = x25, vs 33 = x33 at *
        subst r25 r33
        have hz : ((mk (crossB 0 0 2 2 0 2 2 0)) == 18446744073709551615) = true := (by decide +kernel)
        go_simp
        exact hK _ _ _ hI (Step.refl hI) rfl
      · intro vs g w2 hI hF hR K hK
        simp only [Facts, fill, Act.put, z1, z2, z3, z4, z5, Nat.reduceAdd] at hF hR hK ⊢
        obtain ⟨r25, r34, -⟩ := hR
        generalize vs 25 = x25, vs 34 = x34 at *
        subst r25 r34
        go_simp
        exact hK _ _ _ hI (Step.refl hI) rfl
      · intro vs g w2 hI hF hR K hK
        simp only [Facts, fill, Act.put, z1, z2, z3, z4, z5, Nat.reduceAdd] at hF hR hK ⊢
        obtain ⟨r35, -⟩ := hR
        generalize vs 35 = x35 at *
        subst r35
        go_simp
        exact hK _ _ _ hI (Step.refl hI) rfl
      · intro vs g w2 hI hF hR K hK
        simp only [Facts, fill, Act.put, z1, z2, z3, z4, z5, Nat.reduceAdd] at hF hR hK ⊢
        obtain ⟨r36, -⟩ := hR
        generalize vs 36 = x36 at *
        subst r36
        have k0 := hI.cell CR11_R1_0.out (fun _ h => by cases h)
        have k1 := hI.cell CR11_R1_1.out (fun _ h => by cases h)
        go_simp
        exact hK _ _ _ hI (Step.refl hI) rfl
      · intro vs g w2 hI hF hR K hK
        simp only [Facts, fill, Act.put, z1, z2, z3, z4, z5, Nat.reduceAdd] at hF hR hK ⊢
        obtain ⟨r36, -⟩ := hR
        generalize vs 36 = x36 at *
        subst r36
        go_simp
        exact hK _ _ _ hI (Step.refl hI) rfl
      · intro vs g w2 hI hF hR K hK
        simp only [Facts, fill, Act.put, z1, z2, z3, z4, z5, Nat.reduceAdd] at hF hR hK ⊢
        obtain ⟨r36, r38, -⟩ := hR
        generalize vs 36 = x36, vs 38 = x38 at *
        subst r36 r38
        go_simp
        refine (gP8 hI).mono ?_
        rintro e w3 ⟨v3, rfl, hv, hb⟩
        exact hK _ _ _ (hI.call hb) (Step.call hI hb) hv
      · intro vs g w2 hI hF hR K hK
        simp only [Facts, fill, Act.put, z1, z2, z3, z4, z5, Nat.reduceAdd] at hF hR hK ⊢
        obtain ⟨r36, -⟩ := hR
        generalize vs 36 = x36 at *
        subst r36
        go_simp
        exact hK _ _ _ hI (Step.refl hI) rfl
      · intro vs g w2 hI hF hR K hK
        simp only [Facts, fill, Act.put, z1, z2, z3, z4, z5, Nat.reduceAdd] at hF hR hK ⊢
        obtain ⟨r36, r40, -⟩ := hR
        generalize vs 36 = x36, vs 40 = x40 at *
        subst r36 r40
        go_simp
        refine (gP8 hI).mono ?_
        rintro e w3 ⟨v3, rfl, hv, hb⟩
        exact hK _ _ _ (hI.call hb) (Step.call hI hb) hv
      · intro vs g w2 hI hF hR K hK
        simp only [Facts, fill, Act.put, z1, z2, z3, z4, z5, Nat.reduceAdd] at hF hR hK ⊢
        obtain ⟨r36, -⟩ := hR
        generalize vs 36 = x36 at *
        subst r36
        go_simp
        exact hK _ _ _ hI (Step.refl hI) rfl
      · intro vs g w2 hI hF hR K hK
        simp only [Facts, fill, Act.put, z1, z2, z3, z4, z5, Nat.reduceAdd] at hF hR hK ⊢
        obtain ⟨r36, r42, -⟩ := hR
        generalize vs 36 = x36, vs 42 = x42 at *
        subst r36 r42
        go_simp
        refine (gP8 hI).mono ?_
        rintro e w3 ⟨v3, rfl, hv, hb⟩
        exact hK _ _ _ (hI.call hb) (Step.call hI hb) hv
      · intro vs g w2 hI hF hR K hK
        simp only [Facts, fill, Act.put, z1, z2, z3, z4, z5, Nat.reduceAdd] at hF hR hK ⊢
        obtain ⟨r36, r37, r39, r41, r43, -⟩ := hR
        generalize vs 36 = x36, vs 37 = x37, vs 39 = x39, vs 41 = x41, vs 43 = x43 at *
        subst r36 r37 r39 r41 r43
        go_simp
        refine (gSegMeets hI hw (by first | assumption | (unfold S; decide)) (by first | assumption | (unfold S; decide)) (by first | assumption | (unfold S; decide)) (by first | assumption | (unfold S; decide)) (by first | assumption | (unfold S; decide)) (by first | assumption | (unfold S; decide)) (by first | assumption | (unfold S; decide)) (by first | assumption | (unfold S; decide))).mono ?_
        rintro e w3 ⟨v3, rfl, hv, hb⟩
        exact hK _ _ _ (hI.call hb) (Step.call hI hb) hv
      · intro vs g w2 hI hF hR K hK
        simp only [Facts, fill, Act.put, z1, z2, z3, z4, z5, Nat.reduceAdd] at hF hR hK ⊢
        obtain ⟨r36, r44, -⟩ := hR
        generalize vs 36 = x36, vs 44 = x44 at *
        subst r36 r44
        have hz : ((mk (meetB 0 0 2 0 2 0 3 1)) == 18446744073709551615) = true := (by decide +kernel)
        go_simp
        exact hK _ _ _ hI (Step.refl hI) rfl
      · intro vs g w2 hI hF hR K hK
        simp only [Facts, fill, Act.put, z1, z2, z3, z4, z5, Nat.reduceAdd] at hF hR hK ⊢
        obtain ⟨r36, r45, -⟩ := hR
        generalize vs 36 = x36, vs 45 = x45 at *
        subst r36 r45
        go_simp
        exact hK _ _ _ hI (Step.refl hI) rfl
      · intro vs g w2 hI hF hR K hK
        simp only [Facts, fill, Act.put, z1, z2, z3, z4, z5, Nat.reduceAdd] at hF hR hK ⊢
        obtain ⟨r46, -⟩ := hR
        generalize vs 46 = x46 at *
        subst r46
        go_simp
        exact hK _ _ _ hI (Step.refl hI) rfl
      · intro vs g w2 hI hF hR K hK
        simp only [Facts, fill, Act.put, z1, z2, z3, z4, z5, Nat.reduceAdd] at hF hR hK ⊢
        obtain ⟨r47, -⟩ := hR
        generalize vs 47 = x47 at *
        subst r47
        have k0 := hI.cell CR11_R1_0.out (fun _ h => by cases h)
        have k1 := hI.cell CR11_R1_1.out (fun _ h => by cases h)
        go_simp
        exact hK _ _ _ hI (Step.refl hI) rfl
      · intro vs g w2 hI hF hR K hK
        simp only [Facts, fill, Act.put, z1, z2, z3, z4, z5, Nat.reduceAdd] at hF hR hK ⊢
        obtain ⟨r47, -⟩ := hR
        generalize vs 47 = x47 at *
        subst r47
        go_simp
        exact hK _ _ _ hI (Step.refl hI) rfl
      · intro vs g w2 hI hF hR K hK
        simp only [Facts, fill, Act.put, z1, z2, z3, z4, z5, Nat.reduceAdd] at hF hR hK ⊢
        obtain ⟨r47, r49, -⟩ := hR
        generalize vs 47 = x47, vs 49 = x49 at *
        subst r47 r49
        go_simp
        refine (gP8 hI).mono ?_
        rintro e w3 ⟨v3, rfl, hv, hb⟩
        exact hK _ _ _ (hI.call hb) (Step.call hI hb) hv
      · intro vs g w2 hI hF hR K hK
        simp only [Facts, fill, Act.put, z1, z2, z3, z4, z5, Nat.reduceAdd] at hF hR hK ⊢
        obtain ⟨r47, -⟩ := hR
        generalize vs 47 = x47 at *
        subst r47
        go_simp
        exact hK _ _ _ hI (Step.refl hI) rfl
      · intro vs g w2 hI hF hR K hK
        simp only [Facts, fill, Act.put, z1, z2, z3, z4, z5, Nat.reduceAdd] at hF hR hK ⊢
        obtain ⟨r47, r51, -⟩ := hR
        generalize vs 47 = x47, vs 51 = x51 at *
        subst r47 r51
        go_simp
        refine (gP8 hI).mono ?_
        rintro e w3 ⟨v3, rfl, hv, hb⟩
        exact hK _ _ _ (hI.call hb) (Step.call hI hb) hv
      · intro vs g w2 hI hF hR K hK
        simp only [Facts, fill, Act.put, z1, z2, z3, z4, z5, Nat.reduceAdd] at hF hR hK ⊢
        obtain ⟨r47, -⟩ := hR
        generalize vs 47 = x47 at *
        subst r47
        go_simp
        exact hK _ _ _ hI (Step.refl hI) rfl
      · intro vs g w2 hI hF hR K hK
        simp only [Facts, fill, Act.put, z1, z2, z3, z4, z5, Nat.reduceAdd] at hF hR hK ⊢
        obtain ⟨r47, r53, -⟩ := hR
        generalize vs 47 = x47, vs 53 = x53 at *
        subst r47 r53
        go_simp
        refine (gP8 hI).mono ?_
        rintro e w3 ⟨v3, rfl, hv, hb⟩
        exact hK _ _ _ (hI.call hb) (Step.call hI hb) hv
      · intro vs g w2 hI hF hR K hK
        simp only [Facts, fill, Act.put, z1, z2, z3, z4, z5, Nat.reduceAdd] at hF hR hK ⊢
        obtain ⟨r47, r48, r50, r52, r54, -⟩ := hR
        generalize vs 47 = x47, vs 48 = x48, vs 50 = x50, vs 52 = x52, vs 54 = x54 at *
        subst r47 r48 r50 r52 r54
        go_simp
        refine (gSegCrosses hI hw (by first | assumption | (unfold S; decide)) (by first | assumption | (unfold S; decide)) (by first | assumption | (unfold S; decide)) (by first | assumption | (unfold S; decide)) (by first | assumption | (unfold S; decide)) (by first | assumption | (unfold S; decide)) (by first | assumption | (unfold S; decide)) (by first | assumption | (unfold S; decide))).mono ?_
        rintro e w3 ⟨v3, rfl, hv, hb⟩
        exact hK _ _ _ (hI.call hb) (Step.call hI hb) hv
      · intro vs g w2 hI hF hR K hK
        simp only [Facts, fill, Act.put, z1, z2, z3, z4, z5, Nat.reduceAdd] at hF hR hK ⊢
        obtain ⟨r47, r55, -⟩ := hR
        generalize vs 47 = x47, vs 55 = x55 at *
        subst r47 r55
        have hz : ((mk (crossB 0 0 2 0 2 0 3 1)) == 0) = true := (by decide +kernel)
        go_simp
        exact hK _ _ _ hI (Step.refl hI) rfl
      · intro vs g w2 hI hF hR K hK
        simp only [Facts, fill, Act.put, z1, z2, z3, z4, z5, Nat.reduceAdd] at hF hR hK ⊢
        obtain ⟨r47, r56, -⟩ := hR
        generalize vs 47 = x47, vs 56 = x56 at *
        subst r47 r56
        go_simp
        exact hK _ _ _ hI (Step.refl hI) rfl
      · intro vs g w2 hI hF hR K hK
        simp only [Facts, fill, Act.put, z1, z2, z3, z4, z5, Nat.reduceAdd] at hF hR hK ⊢
        obtain ⟨r57, -⟩ := hR
        generalize vs 57 = x57 at *
        subst r57
        go_simp
        exact hK _ _ _ hI (Step.refl hI) rfl
      · intro vs g w2 hI hF hR K hK
        simp only [Facts, fill, Act.put, z1, z2, z3, z4, z5, Nat.reduceAdd] at hF hR hK ⊢
        obtain ⟨r58, -⟩ := hR
        generalize vs 58 = x58 at *
        subst r58
        go_simp
        refine (gSegWithin hI hw (by first | assumption | (unfold S; decide)) (by first | assumption | (unfold S; decide)) (by first | assumption | (unfold S; decide))).mono ?_
        rintro e w3 ⟨v3, rfl, hv, hb⟩
        exact hK _ _ _ (hI.call hb) (Step.call hI hb) hv
      · intro vs g w2 hI hF hR K hK
        simp only [Facts, fill, Act.put, z1, z2, z3, z4, z5, Nat.reduceAdd] at hF hR hK ⊢
        obtain ⟨r58, r59, -⟩ := hR
        generalize vs 58 = x58, vs 59 = x59 at *
        subst r58 r59
        have hz : ((mk (withB 5 1 3)) == 18446744073709551615) = true := (by decide +kernel)
        go_simp
        exact hK _ _ _ hI (Step.refl hI) rfl
      · intro vs g w2 hI hF hR K hK
        simp only [Facts, fill, Act.put, z1, z2, z3, z4, z5, Nat.reduceAdd] at hF hR hK ⊢
        obtain ⟨r58, r60, -⟩ := hR
        generalize vs 58 = x58, vs 60 = x60 at *
        subst r58 r60
        go_simp
        exact hK _ _ _ hI (Step.refl hI) rfl
      · intro vs g w2 hI hF hR K hK
        simp only [Facts, fill, Act.put, z1, z2, z3, z4, z5, Nat.reduceAdd] at hF hR hK ⊢
        obtain ⟨r61, -⟩ := hR
        generalize vs 61 = x61 at *
        subst r61
        go_simp
        exact hK _ _ _ hI (Step.refl hI) rfl
    case fin =>
      intro vs g wR2 hI hR
      have r62 := hR 62 (by decide)
      simp only [fill, Act.put, z1, z2, z3, z4, z5] at r62 ⊢
      clear hR
      generalize vs 62 = x62 at *
      have CR11_R2_0 := Lib.hid (hI.cell CR11_R1_0.out (fun _ h => by cases h))
      have CR11_R2_1 := Lib.hid (hI.cell CR11_R1_1.out (fun _ h => by cases h))
      subst r62
      have hBR2 := hI.below
      have HCR2 := hI.next HCR1
      clear hI
      go_wp2
      go_ret
      exact ⟨rfl, hBR2⟩
theorem gAlive8 {c : Ctx} {g : Gh} {w : World} (hI : RInv c g w) (hw : Wts c.W0) : Calls Tryd.prog 9 #[] w (Gives (fun v _ _ => v = .bool true) g w) := by
  refine (alive8_any w (hw.below hI.below)).mono ?_
  rintro e w' ⟨rfl, hb⟩
  exact ⟨_, rfl, rfl, hb⟩
end Go.Proofs.YtckhgamojpbcgaaDoor
