/-
  Law OrientAddsUp. (Written by law5.py.)
-/
import Derived.Test.YthnhabfnjjbfaaaDoorGen6
namespace Go.Proofs.YthnhabfnjjbfaaaDoor
open Go.RowKit
set_option maxRecDepth 100000
set_option linter.unusedVariables false
set_option linter.unusedSimpArgs false

set_option maxRecDepth 100000 in
set_option maxHeartbeats 4000000 in
theorem law_orientAddsUp (xa ya xb yb xc yc xd yd : Int) (w : World) (hw : Wts w) (sxa : S xa) (sya : S ya) (sxb : S xb) (syb : S yb) (sxc : S xc) (syc : S yc) (sxd : S xd) (syd : S yd) :
    Calls Tryd.prog 7 #[.agg #[.int .i64 xa, .int .i64 ya, .int .i64 xb, .int .i64 yb, .int .i64 xc, .int .i64 yc], .agg #[.int .i64 xd, .int .i64 yd]] w fun e w' => e = .returned (.bool true) ∧ Below w.heap.size w w' := by
  obtain ⟨W, hW⟩ : ∃ W, W = (w.alloc (.cells #[.int .i64 xa, .int .i64 ya, .int .i64 xb, .int .i64 yb, .int .i64 xc, .int .i64 yc] 41)).alloc (.cells #[.int .i64 xd, .int .i64 yd] 23) := ⟨_, rfl⟩
  have hb0 : Below w.heap.size w W := by rw [hW]; exact (((Below.refl _ _).alloc (Nat.le_refl _) _).alloc (by simp) _)
  have Cabc_W_0 := Lib.hid (show W.cell? ⟨w.heap.size, 0, none⟩ = some (.int .i64 xa) by rw [hW]; simp [go_sem])
  have Cabc_W_1 := Lib.hid (show W.cell? ⟨w.heap.size, 1, none⟩ = some (.int .i64 ya) by rw [hW]; simp [go_sem])
  have Cabc_W_2 := Lib.hid (show W.cell? ⟨w.heap.size, 2, none⟩ = some (.int .i64 xb) by rw [hW]; simp [go_sem])
  have Cabc_W_3 := Lib.hid (show W.cell? ⟨w.heap.size, 3, none⟩ = some (.int .i64 yb) by rw [hW]; simp [go_sem])
  have Cabc_W_4 := Lib.hid (show W.cell? ⟨w.heap.size, 4, none⟩ = some (.int .i64 xc) by rw [hW]; simp [go_sem])
  have Cabc_W_5 := Lib.hid (show W.cell? ⟨w.heap.size, 5, none⟩ = some (.int .i64 yc) by rw [hW]; simp [go_sem])
  have Cd_W_0 := Lib.hid (show W.cell? ⟨w.heap.size + 1, 0, none⟩ = some (.int .i64 xd) by rw [hW]; simp [go_sem])
  have Cd_W_1 := Lib.hid (show W.cell? ⟨w.heap.size + 1, 1, none⟩ = some (.int .i64 yd) by rw [hW]; simp [go_sem])
  have HW := Lib.hid hW
  clear hW
  go_enter Tryd.func7, Tryd.ntmps7
  go_upto_region 1 with (fail)
  rw [← HW.out]
  refine box_plan (c := ⟨w, W, (fun _ => none)⟩) (Ctx.ok_none hb0) (by kernel_rfl) [[], [(13, 0)], [], [(15, 2)], [], [(17, 4)], [], [], [], [(5, 6), (14, 1)], [(6, 7), (16, 3)], [(7, 8), (18, 5)]] [(13, 0), (14, 1), (15, 2), (16, 3), (17, 4), (18, 5), (5, 6), (6, 7), (7, 8)] [
      (fun v _ _ => v = .pointer (some ⟨w.heap.size, 0, none⟩)),
      (fun v _ _ => v = .agg #[.int .i64 xa, .int .i64 ya]),
      (fun v _ _ => v = .pointer (some ⟨w.heap.size, 2, none⟩)),
      (fun v _ _ => v = .agg #[.int .i64 xb, .int .i64 yb]),
      (fun v _ _ => v = .pointer (some ⟨w.heap.size, 4, none⟩)),
      (fun v _ _ => v = .agg #[.int .i64 xc, .int .i64 yc]),
      PtrR 6 2,
      PtrR 7 2,
      PtrR 8 2,
      (fun _ g w => BoxR 6 (fun v _ _ => v = .agg #[.int .i64 xa, .int .i64 ya]) g w),
      (fun _ g w => BoxR 7 (fun v _ _ => v = .agg #[.int .i64 xb, .int .i64 yb]) g w),
      (fun _ g w => BoxR 8 (fun v _ _ => v = .agg #[.int .i64 xc, .int .i64 yc]) g w)
    ] (fun i => match i with | 6 => some 9 | 7 => some 10 | 8 => some 11 | _ => none) (by kernel_rfl) (by kernel_rfl) ⟨stab_eq, stab_eq, stab_eq, stab_eq, stab_eq, stab_eq, stab_ptr, stab_ptr, stab_ptr, stab_box (firm_eq _) rfl, stab_box (firm_eq _) rfl, stab_box (firm_eq _) rfl, trivial⟩ ?steps ?fin
  case steps =>
    refine ⟨?_, ?_, ?_, ?_, ?_, ?_, ?_, ?_, ?_, ?_, ?_, ?_, trivial⟩
    · intro vs g w2 hI hF hR K hK
      simp only [Facts, fill, Act.put, z1, z2, z3, z4, z5, Nat.reduceAdd] at hF hR hK ⊢
      go_simp
      exact hK _ _ _ hI (Step.refl hI) rfl
    · intro vs g w2 hI hF hR K hK
      simp only [Facts, fill, Act.put, z1, z2, z3, z4, z5, Nat.reduceAdd] at hF hR hK ⊢
      obtain ⟨r0, -⟩ := hR
      generalize vs 0 = x0 at *
      subst r0
      have k0 := hI.cell Cabc_W_0.out (fun _ h => by cases h)
      have k1 := hI.cell Cabc_W_1.out (fun _ h => by cases h)
      go_simp
      exact hK _ _ _ hI (Step.refl hI) rfl
    · intro vs g w2 hI hF hR K hK
      simp only [Facts, fill, Act.put, z1, z2, z3, z4, z5, Nat.reduceAdd] at hF hR hK ⊢
      go_simp
      exact hK _ _ _ hI (Step.refl hI) rfl
    · intro vs g w2 hI hF hR K hK
      simp only [Facts, fill, Act.put, z1, z2, z3, z4, z5, Nat.reduceAdd] at hF hR hK ⊢
      obtain ⟨r2, -⟩ := hR
      generalize vs 2 = x2 at *
      subst r2
      have k0 := hI.cell Cabc_W_2.out (fun _ h => by cases h)
      have k1 := hI.cell Cabc_W_3.out (fun _ h => by cases h)
      go_simp
      exact hK _ _ _ hI (Step.refl hI) rfl
    · intro vs g w2 hI hF hR K hK
      simp only [Facts, fill, Act.put, z1, z2, z3, z4, z5, Nat.reduceAdd] at hF hR hK ⊢
      go_simp
      exact hK _ _ _ hI (Step.refl hI) rfl
    · intro vs g w2 hI hF hR K hK
      simp only [Facts, fill, Act.put, z1, z2, z3, z4, z5, Nat.reduceAdd] at hF hR hK ⊢
      obtain ⟨r4, -⟩ := hR
      generalize vs 4 = x4 at *
      subst r4
      have k0 := hI.cell Cabc_W_4.out (fun _ h => by cases h)
      have k1 := hI.cell Cabc_W_5.out (fun _ h => by cases h)
      go_simp
      exact hK _ _ _ hI (Step.refl hI) rfl
    · intro vs g w2 hI hF hR K hK
      simp only [Facts, fill, Act.put, z1, z2, z3, z4, z5, Nat.reduceAdd] at hF hR hK ⊢
      go_simp
      exact hK _ _ _ (hI.alloc _ (hF (by decide)) _) (Step.alloc hI (hF (by decide)) _) ⟨_, rfl, more_at _ _ _, box2' _ _ _ _⟩
    · intro vs g w2 hI hF hR K hK
      simp only [Facts, fill, Act.put, z1, z2, z3, z4, z5, Nat.reduceAdd] at hF hR hK ⊢
      go_simp
      exact hK _ _ _ (hI.alloc _ (hF (by decide)) _) (Step.alloc hI (hF (by decide)) _) ⟨_, rfl, more_at _ _ _, box2' _ _ _ _⟩
    · intro vs g w2 hI hF hR K hK
      simp only [Facts, fill, Act.put, z1, z2, z3, z4, z5, Nat.reduceAdd] at hF hR hK ⊢
      go_simp
      exact hK _ _ _ (hI.alloc _ (hF (by decide)) _) (Step.alloc hI (hF (by decide)) _) ⟨_, rfl, more_at _ _ _, box2' _ _ _ _⟩
    · intro vs g w2 hI hF hR K hK
      simp only [Facts, fill, Act.put, z1, z2, z3, z4, z5, Nat.reduceAdd] at hF hR hK ⊢
      obtain ⟨r6, r1, -⟩ := hR
      generalize vs 6 = x6, vs 1 = x1 at *
      subst r1
      obtain ⟨k, rfl, hk, hbx⟩ := r6
      obtain ⟨⟨u0, k0⟩, f0⟩ := hbx 0 (by decide)
      obtain ⟨⟨u1, k1⟩, f1⟩ := hbx 1 (by decide)
      go_simp
      have ht := (((Touch.refl w2 k).set 0 (.int .i64 xa)).set 1 (.int .i64 ya))
      exact hK undef _ _ (hI.store (by decide) hk ht) (Step.store hI rfl hk ht) ⟨k, .agg #[.int .i64 xa, .int .i64 ya], hk, by rw [ht.size]; exact hI.lt _ _ hk, cells2 k0 k1 (.int .i64 xa) (.int .i64 ya), rfl⟩
    · intro vs g w2 hI hF hR K hK
      simp only [Facts, fill, Act.put, z1, z2, z3, z4, z5, Nat.reduceAdd] at hF hR hK ⊢
      obtain ⟨r7, r3, -⟩ := hR
      generalize vs 7 = x7, vs 3 = x3 at *
      subst r3
      obtain ⟨k, rfl, hk, hbx⟩ := r7
      obtain ⟨⟨u0, k0⟩, f0⟩ := hbx 0 (by decide)
      obtain ⟨⟨u1, k1⟩, f1⟩ := hbx 1 (by decide)
      go_simp
      have ht := (((Touch.refl w2 k).set 0 (.int .i64 xb)).set 1 (.int .i64 yb))
      exact hK undef _ _ (hI.store (by decide) hk ht) (Step.store hI rfl hk ht) ⟨k, .agg #[.int .i64 xb, .int .i64 yb], hk, by rw [ht.size]; exact hI.lt _ _ hk, cells2 k0 k1 (.int .i64 xb) (.int .i64 yb), rfl⟩
    · intro vs g w2 hI hF hR K hK
      simp only [Facts, fill, Act.put, z1, z2, z3, z4, z5, Nat.reduceAdd] at hF hR hK ⊢
      obtain ⟨r8, r5, -⟩ := hR
      generalize vs 8 = x8, vs 5 = x5 at *
      subst r5
      obtain ⟨k, rfl, hk, hbx⟩ := r8
      obtain ⟨⟨u0, k0⟩, f0⟩ := hbx 0 (by decide)
      obtain ⟨⟨u1, k1⟩, f1⟩ := hbx 1 (by decide)
      go_simp
      have ht := (((Touch.refl w2 k).set 0 (.int .i64 xc)).set 1 (.int .i64 yc))
      exact hK undef _ _ (hI.store (by decide) hk ht) (Step.store hI rfl hk ht) ⟨k, .agg #[.int .i64 xc, .int .i64 yc], hk, by rw [ht.size]; exact hI.lt _ _ hk, cells2 k0 k1 (.int .i64 xc) (.int .i64 yc), rfl⟩
  case fin =>
    intro vs g wR1 hI hR
    have r6 := hR 6 (by decide)
    have r7 := hR 7 (by decide)
    have r8 := hR 8 (by decide)
    have r9 := hR 9 (by decide)
    have r10 := hR 10 (by decide)
    have r11 := hR 11 (by decide)
    simp only [fill, Act.put, z1, z2, z3, z4, z5] at r6 r7 r8 r9 r10 r11 ⊢
    clear hR
    generalize vs 6 = x6 at *
    generalize vs 7 = x7 at *
    generalize vs 8 = x8 at *
    generalize vs 9 = x9 at *
    generalize vs 10 = x10 at *
    generalize vs 11 = x11 at *
    have Cabc_R1_0 := Lib.hid (hI.cell Cabc_W_0.out (fun _ h => by cases h))
    have Cabc_R1_1 := Lib.hid (hI.cell Cabc_W_1.out (fun _ h => by cases h))
    have Cabc_R1_2 := Lib.hid (hI.cell Cabc_W_2.out (fun _ h => by cases h))
    have Cabc_R1_3 := Lib.hid (hI.cell Cabc_W_3.out (fun _ h => by cases h))
    have Cabc_R1_4 := Lib.hid (hI.cell Cabc_W_4.out (fun _ h => by cases h))
    have Cabc_R1_5 := Lib.hid (hI.cell Cabc_W_5.out (fun _ h => by cases h))
    have Cd_R1_0 := Lib.hid (hI.cell Cd_W_0.out (fun _ h => by cases h))
    have Cd_R1_1 := Lib.hid (hI.cell Cd_W_1.out (fun _ h => by cases h))
    obtain ⟨pR15, rfl, hkR15, -⟩ := r6
    obtain ⟨qR15, uR15, hqR15, -, hcR15, hrR15⟩ := r9
    rw [hkR15] at hqR15
    injection hqR15 with hqR15
    subst hqR15
    subst hrR15
    have CR15_R1_0 := Lib.hid (hcR15 0 _ rfl)
    have CR15_R1_1 := Lib.hid (hcR15 1 _ rfl)
    clear hcR15 hkR15
    obtain ⟨pR16, rfl, hkR16, -⟩ := r7
    obtain ⟨qR16, uR16, hqR16, -, hcR16, hrR16⟩ := r10
    rw [hkR16] at hqR16
    injection hqR16 with hqR16
    subst hqR16
    subst hrR16
    have CR16_R1_0 := Lib.hid (hcR16 0 _ rfl)
    have CR16_R1_1 := Lib.hid (hcR16 1 _ rfl)
    clear hcR16 hkR16
    obtain ⟨pR17, rfl, hkR17, -⟩ := r8
    obtain ⟨qR17, uR17, hqR17, -, hcR17, hrR17⟩ := r11
    rw [hkR17] at hqR17
    injection hqR17 with hqR17
    subst hqR17
    subst hrR17
    have CR17_R1_0 := Lib.hid (hcR17 0 _ rfl)
    have CR17_R1_1 := Lib.hid (hcR17 1 _ rfl)
    clear hcR17 hkR17
    have hBR1 := hI.below
    have HCR1 := hI.next (Ctx.ok_none hb0)
    clear hI
    go_upto_region 2 with (fail)
    refine box_plan (c := ⟨w, wR1, (fun _ => none)⟩) HCR1 (by kernel_rfl) [[], [], [], [(19, 0), (20, 1), (21, 2)], [], [], [], [(23, 4), (24, 5), (25, 6)], [], [], [], [(27, 8), (28, 9), (29, 10)], [], [], [], [(31, 12), (32, 13), (33, 14)], [(22, 3)], [(26, 7)], [(30, 11)], [(34, 15)]] [(19, 0), (20, 1), (21, 2), (22, 3), (23, 4), (24, 5), (25, 6), (26, 7), (27, 8), (28, 9), (29, 10), (30, 11), (31, 12), (32, 13), (33, 14), (34, 15), (8, 16), (9, 17), (10, 18), (11, 19)] [
        (fun v _ _ => v = .agg #[.int .i64 xa, .int .i64 ya]),
        (fun v _ _ => v = .agg #[.int .i64 xb, .int .i64 yb]),
        (fun v _ _ => v = .agg #[.int .i64 xd, .int .i64 yd]),
        LimR 3 (det xa ya xb yb xd yd),
        (fun v _ _ => v = .agg #[.int .i64 xb, .int .i64 yb]),
        (fun v _ _ => v = .agg #[.int .i64 xc, .int .i64 yc]),
        (fun v _ _ => v = .agg #[.int .i64 xd, .int .i64 yd]),
        LimR 3 (det xb yb xc yc xd yd),
        (fun v _ _ => v = .agg #[.int .i64 xc, .int .i64 yc]),
        (fun v _ _ => v = .agg #[.int .i64 xa, .int .i64 ya]),
        (fun v _ _ => v = .agg #[.int .i64 xd, .int .i64 yd]),
        LimR 3 (det xc yc xa ya xd yd),
        (fun v _ _ => v = .agg #[.int .i64 xa, .int .i64 ya]),
        (fun v _ _ => v = .agg #[.int .i64 xb, .int .i64 yb]),
        (fun v _ _ => v = .agg #[.int .i64 xc, .int .i64 yc]),
        LimR 3 (det xa ya xb yb xc yc),
        LimR 3 (det xa ya xb yb xd yd),
        LimR 3 (det xb yb xc yc xd yd),
        LimR 3 (det xc yc xa ya xd yd),
        LimR 3 (det xa ya xb yb xc yc)
      ] (fun _ => none) (by kernel_rfl) (by kernel_rfl) ⟨stab_eq, stab_eq, stab_eq, stab_firm (limR_firm _ _), stab_eq, stab_eq, stab_eq, stab_firm (limR_firm _ _), stab_eq, stab_eq, stab_eq, stab_firm (limR_firm _ _), stab_eq, stab_eq, stab_eq, stab_firm (limR_firm _ _), stab_firm (limR_firm _ _), stab_firm (limR_firm _ _), stab_firm (limR_firm _ _), stab_firm (limR_firm _ _), trivial⟩ ?steps ?fin
    case steps =>
      refine ⟨?_, ?_, ?_, ?_, ?_, ?_, ?_, ?_, ?_, ?_, ?_, ?_, ?_, ?_, ?_, ?_, ?_, ?_, ?_, ?_, trivial⟩
      · intro vs g w2 hI hF hR K hK
        simp only [Facts, fill, Act.put, z1, z2, z3, z4, z5, Nat.reduceAdd] at hF hR hK ⊢
        have k0 := hI.cell CR15_R1_0.out (fun _ h => by cases h)
        have k1 := hI.cell CR15_R1_1.out (fun _ h => by cases h)
        go_simp
        exact hK _ _ _ hI (Step.refl hI) rfl
      · intro vs g w2 hI hF hR K hK
        simp only [Facts, fill, Act.put, z1, z2, z3, z4, z5, Nat.reduceAdd] at hF hR hK ⊢
        have k0 := hI.cell CR16_R1_0.out (fun _ h => by cases h)
        have k1 := hI.cell CR16_R1_1.out (fun _ h => by cases h)
        go_simp
        exact hK _ _ _ hI (Step.refl hI) rfl
      · intro vs g w2 hI hF hR K hK
        simp only [Facts, fill, Act.put, z1, z2, z3, z4, z5, Nat.reduceAdd] at hF hR hK ⊢
        have k0 := hI.cell Cd_R1_0.out (fun _ h => by cases h)
        have k1 := hI.cell Cd_R1_1.out (fun _ h => by cases h)
        go_simp
        exact hK _ _ _ hI (Step.refl hI) rfl
      · intro vs g w2 hI hF hR K hK
        simp only [Facts, fill, Act.put, z1, z2, z3, z4, z5, Nat.reduceAdd] at hF hR hK ⊢
        obtain ⟨r0, r1, r2, -⟩ := hR
        generalize vs 0 = x0, vs 1 = x1, vs 2 = x2 at *
        subst r0 r1 r2
        go_simp
        refine (gOrientValue hI hw (by first | assumption | (unfold S; decide)) (by first | assumption | (unfold S; decide)) (by first | assumption | (unfold S; decide)) (by first | assumption | (unfold S; decide)) (by first | assumption | (unfold S; decide)) (by first | assumption | (unfold S; decide))).mono ?_
        rintro e w3 ⟨v3, rfl, hv, hb⟩
        exact hK _ _ _ (hI.call hb) (Step.call hI hb) hv
      · intro vs g w2 hI hF hR K hK
        simp only [Facts, fill, Act.put, z1, z2, z3, z4, z5, Nat.reduceAdd] at hF hR hK ⊢
        have k0 := hI.cell CR16_R1_0.out (fun _ h => by cases h)
        have k1 := hI.cell CR16_R1_1.out (fun _ h => by cases h)
        go_simp
        exact hK _ _ _ hI (Step.refl hI) rfl
      · intro vs g w2 hI hF hR K hK
        simp only [Facts, fill, Act.put, z1, z2, z3, z4, z5, Nat.reduceAdd] at hF hR hK ⊢
        have k0 := hI.cell CR17_R1_0.out (fun _ h => by cases h)
        have k1 := hI.cell CR17_R1_1.out (fun _ h => by cases h)
        go_simp
        exact hK _ _ _ hI (Step.refl hI) rfl
      · intro vs g w2 hI hF hR K hK
        simp only [Facts, fill, Act.put, z1, z2, z3, z4, z5, Nat.reduceAdd] at hF hR hK ⊢
        have k0 := hI.cell Cd_R1_0.out (fun _ h => by cases h)
        have k1 := hI.cell Cd_R1_1.out (fun _ h => by cases h)
        go_simp
        exact hK _ _ _ hI (Step.refl hI) rfl
      · intro vs g w2 hI hF hR K hK
        simp only [Facts, fill, Act.put, z1, z2, z3, z4, z5, Nat.reduceAdd] at hF hR hK ⊢
        obtain ⟨r4, r5, r6, -⟩ := hR
        generalize vs 4 = x4, vs 5 = x5, vs 6 = x6 at *
        subst r4 r5 r6
        go_simp
        refine (gOrientValue hI hw (by first | assumption | (unfold S; decide)) (by first | assumption | (unfold S; decide)) (by first | assumption | (unfold S; decide)) (by first | assumption | (unfold S; decide)) (by first | assumption | (unfold S; decide)) (by first | assumption | (unfold S; decide))).mono ?_
        rintro e w3 ⟨v3, rfl, hv, hb⟩
        exact hK _ _ _ (hI.call hb) (Step.call hI hb) hv
      · intro vs g w2 hI hF hR K hK
        simp only [Facts, fill, Act.put, z1, z2, z3, z4, z5, Nat.reduceAdd] at hF hR hK ⊢
        have k0 := hI.cell CR17_R1_0.out (fun _ h => by cases h)
        have k1 := hI.cell CR17_R1_1.out (fun _ h => by cases h)
        go_simp
        exact hK _ _ _ hI (Step.refl hI) rfl
      · intro vs g w2 hI hF hR K hK
        simp only [Facts, fill, Act.put, z1, z2, z3, z4, z5, Nat.reduceAdd] at hF hR hK ⊢
        have k0 := hI.cell CR15_R1_0.out (fun _ h => by cases h)
        have k1 := hI.cell CR15_R1_1.out (fun _ h => by cases h)
        go_simp
        exact hK _ _ _ hI (Step.refl hI) rfl
      · intro vs g w2 hI hF hR K hK
        simp only [Facts, fill, Act.put, z1, z2, z3, z4, z5, Nat.reduceAdd] at hF hR hK ⊢
        have k0 := hI.cell Cd_R1_0.out (fun _ h => by cases h)
        have k1 := hI.cell Cd_R1_1.out (fun _ h => by cases h)
        go_simp
        exact hK _ _ _ hI (Step.refl hI) rfl
      · intro vs g w2 hI hF hR K hK
        simp only [Facts, fill, Act.put, z1, z2, z3, z4, z5, Nat.reduceAdd] at hF hR hK ⊢
        obtain ⟨r8, r9, r10, -⟩ := hR
        generalize vs 8 = x8, vs 9 = x9, vs 10 = x10 at *
        subst r8 r9 r10
        go_simp
        refine (gOrientValue hI hw (by first | assumption | (unfold S; decide)) (by first | assumption | (unfold S; decide)) (by first | assumption | (unfold S; decide)) (by first | assumption | (unfold S; decide)) (by first | assumption | (unfold S; decide)) (by first | assumption | (unfold S; decide))).mono ?_
        rintro e w3 ⟨v3, rfl, hv, hb⟩
        exact hK _ _ _ (hI.call hb) (Step.call hI hb) hv
      · intro vs g w2 hI hF hR K hK
        simp only [Facts, fill, Act.put, z1, z2, z3, z4, z5, Nat.reduceAdd] at hF hR hK ⊢
        have k0 := hI.cell CR15_R1_0.out (fun _ h => by cases h)
        have k1 := hI.cell CR15_R1_1.out (fun _ h => by cases h)
        go_simp
        exact hK _ _ _ hI (Step.refl hI) rfl
      · intro vs g w2 hI hF hR K hK
        simp only [Facts, fill, Act.put, z1, z2, z3, z4, z5, Nat.reduceAdd] at hF hR hK ⊢
        have k0 := hI.cell CR16_R1_0.out (fun _ h => by cases h)
        have k1 := hI.cell CR16_R1_1.out (fun _ h => by cases h)
        go_simp
        exact hK _ _ _ hI (Step.refl hI) rfl
      · intro vs g w2 hI hF hR K hK
        simp only [Facts, fill, Act.put, z1, z2, z3, z4, z5, Nat.reduceAdd] at hF hR hK ⊢
        have k0 := hI.cell CR17_R1_0.out (fun _ h => by cases h)
        have k1 := hI.cell CR17_R1_1.out (fun _ h => by cases h)
        go_simp
        exact hK _ _ _ hI (Step.refl hI) rfl
      · intro vs g w2 hI hF hR K hK
        simp only [Facts, fill, Act.put, z1, z2, z3, z4, z5, Nat.reduceAdd] at hF hR hK ⊢
        obtain ⟨r12, r13, r14, -⟩ := hR
        generalize vs 12 = x12, vs 13 = x13, vs 14 = x14 at *
        subst r12 r13 r14
        go_simp
        refine (gOrientValue hI hw (by first | assumption | (unfold S; decide)) (by first | assumption | (unfold S; decide)) (by first | assumption | (unfold S; decide)) (by first | assumption | (unfold S; decide)) (by first | assumption | (unfold S; decide)) (by first | assumption | (unfold S; decide))).mono ?_
        rintro e w3 ⟨v3, rfl, hv, hb⟩
        exact hK _ _ _ (hI.call hb) (Step.call hI hb) hv
      · intro vs g w2 hI hF hR K hK
        simp only [Facts, fill, Act.put, z1, z2, z3, z4, z5, Nat.reduceAdd] at hF hR hK ⊢
        obtain ⟨r3, -⟩ := hR
        generalize vs 3 = x3 at *
        go_simp
        exact hK _ _ _ hI (Step.refl hI) r3
      · intro vs g w2 hI hF hR K hK
        simp only [Facts, fill, Act.put, z1, z2, z3, z4, z5, Nat.reduceAdd] at hF hR hK ⊢
        obtain ⟨r7, -⟩ := hR
        generalize vs 7 = x7 at *
        go_simp
        exact hK _ _ _ hI (Step.refl hI) r7
      · intro vs g w2 hI hF hR K hK
        simp only [Facts, fill, Act.put, z1, z2, z3, z4, z5, Nat.reduceAdd] at hF hR hK ⊢
        obtain ⟨r11, -⟩ := hR
        generalize vs 11 = x11 at *
        go_simp
        exact hK _ _ _ hI (Step.refl hI) r11
      · intro vs g w2 hI hF hR K hK
        simp only [Facts, fill, Act.put, z1, z2, z3, z4, z5, Nat.reduceAdd] at hF hR hK ⊢
        obtain ⟨r15, -⟩ := hR
        generalize vs 15 = x15 at *
        go_simp
        exact hK _ _ _ hI (Step.refl hI) r15
    case fin =>
      intro vs g wR2 hI hR
      have r16 := hR 16 (by decide)
      have r17 := hR 17 (by decide)
      have r18 := hR 18 (by decide)
      have r19 := hR 19 (by decide)
      simp only [fill, Act.put, z1, z2, z3, z4, z5] at r16 r17 r18 r19 ⊢
      clear hR
      generalize vs 16 = x16 at *
      generalize vs 17 = x17 at *
      generalize vs 18 = x18 at *
      generalize vs 19 = x19 at *
      have Cabc_R2_0 := Lib.hid (hI.cell Cabc_R1_0.out (fun _ h => by cases h))
      have Cabc_R2_1 := Lib.hid (hI.cell Cabc_R1_1.out (fun _ h => by cases h))
      have Cabc_R2_2 := Lib.hid (hI.cell Cabc_R1_2.out (fun _ h => by cases h))
      have Cabc_R2_3 := Lib.hid (hI.cell Cabc_R1_3.out (fun _ h => by cases h))
      have Cabc_R2_4 := Lib.hid (hI.cell Cabc_R1_4.out (fun _ h => by cases h))
      have Cabc_R2_5 := Lib.hid (hI.cell Cabc_R1_5.out (fun _ h => by cases h))
      have Cd_R2_0 := Lib.hid (hI.cell Cd_R1_0.out (fun _ h => by cases h))
      have Cd_R2_1 := Lib.hid (hI.cell Cd_R1_1.out (fun _ h => by cases h))
      have CR15_R2_0 := Lib.hid (hI.cell CR15_R1_0.out (fun _ h => by cases h))
      have CR15_R2_1 := Lib.hid (hI.cell CR15_R1_1.out (fun _ h => by cases h))
      have CR16_R2_0 := Lib.hid (hI.cell CR16_R1_0.out (fun _ h => by cases h))
      have CR16_R2_1 := Lib.hid (hI.cell CR16_R1_1.out (fun _ h => by cases h))
      have CR17_R2_0 := Lib.hid (hI.cell CR17_R1_0.out (fun _ h => by cases h))
      have CR17_R2_1 := Lib.hid (hI.cell CR17_R1_1.out (fun _ h => by cases h))
      have qfR28 := r16
      obtain ⟨AvR28, cvR28, rfl⟩ := limR_open r16
      have FR28_R2_0 := Lib.hid ((limR_firm _ _) _ _ _ _ _ qfR28 hI.back)
      clear qfR28
      have qfR29 := r17
      obtain ⟨AvR29, cvR29, rfl⟩ := limR_open r17
      have FR29_R2_0 := Lib.hid ((limR_firm _ _) _ _ _ _ _ qfR29 hI.back)
      clear qfR29
      have qfR210 := r18
      obtain ⟨AvR210, cvR210, rfl⟩ := limR_open r18
      have FR210_R2_0 := Lib.hid ((limR_firm _ _) _ _ _ _ _ qfR210 hI.back)
      clear qfR210
      have qfR211 := r19
      obtain ⟨AvR211, cvR211, rfl⟩ := limR_open r19
      have FR211_R2_0 := Lib.hid ((limR_firm _ _) _ _ _ _ _ qfR211 hI.back)
      clear qfR211
      have hBR2 := hI.below
      have HCR2 := hI.next HCR1
      clear hI
      go_upto_region 3 with (fail)
      refine box_plan0 (c := ⟨w, wR2, (fun _ => none)⟩) HCR2 [[], [(35, 0)], [(36, 1)], [(37, 2)], [(38, 3)], [(38, 3), (39, 4)], [(38, 3), (40, 5)], [(38, 3), (41, 6)], [(42, 7)], [(43, 8)], [(43, 8), (44, 9)], [(43, 8), (45, 10)], [(43, 8), (46, 11)], [(47, 12)], [(48, 13)], [(48, 13), (49, 14)], [(48, 13), (50, 15)], [(48, 13), (51, 16)]] [(35, 0), (36, 1), (37, 2), (38, 3), (39, 4), (40, 5), (41, 6), (42, 7), (43, 8), (44, 9), (45, 10), (46, 11), (47, 12), (48, 13), (49, 14), (50, 15), (51, 16), (52, 17)] [
          (fun v _ _ => v = .slice AvR28 3 cvR28),
          (fun v _ _ => v = .int .i64 3),
          (fun v _ _ => v = .bool false),
          (fun v _ _ => v = .bool false),
          (fun v _ _ => v = .slice AvR29 3 cvR29),
          (fun v _ _ => v = .int .i64 3),
          (fun v _ _ => v = .bool false),
          (fun v _ _ => v = .bool false),
          (fun v _ _ => v = .bool false),
          (fun v _ _ => v = .slice AvR210 3 cvR210),
          (fun v _ _ => v = .int .i64 3),
          (fun v _ _ => v = .bool false),
          (fun v _ _ => v = .bool false),
          (fun v _ _ => v = .bool false),
          (fun v _ _ => v = .slice AvR211 3 cvR211),
          (fun v _ _ => v = .int .i64 3),
          (fun v _ _ => v = .bool false),
          (fun v _ _ => v = .bool false)
        ] (fun _ => none) (by kernel_rfl) (by kernel_rfl) ⟨stab_eq, stab_eq, stab_eq, stab_eq, stab_eq, stab_eq, stab_eq, stab_eq, stab_eq, stab_eq, stab_eq, stab_eq, stab_eq, stab_eq, stab_eq, stab_eq, stab_eq, stab_eq, trivial⟩ ?steps ?fin
      case steps =>
        refine ⟨?_, ?_, ?_, ?_, ?_, ?_, ?_, ?_, ?_, ?_, ?_, ?_, ?_, ?_, ?_, ?_, ?_, ?_, trivial⟩
        · intro vs g w2 hI hF hR K hK
          simp only [Facts, fill, Act.put, z1, z2, z3, z4, z5, Nat.reduceAdd] at hF hR hK ⊢
          go_simp
          exact hK _ _ _ hI (Step.refl hI) rfl
        · intro vs g w2 hI hF hR K hK
          simp only [Facts, fill, Act.put, z1, z2, z3, z4, z5, Nat.reduceAdd] at hF hR hK ⊢
          obtain ⟨r0, -⟩ := hR
          generalize vs 0 = x0 at *
          subst r0
          go_simp
          exact hK _ _ _ hI (Step.refl hI) rfl
        · intro vs g w2 hI hF hR K hK
          simp only [Facts, fill, Act.put, z1, z2, z3, z4, z5, Nat.reduceAdd] at hF hR hK ⊢
          obtain ⟨r1, -⟩ := hR
          generalize vs 1 = x1 at *
          subst r1
          go_simp
          exact hK _ _ _ hI (Step.refl hI) rfl
        · intro vs g w2 hI hF hR K hK
          simp only [Facts, fill, Act.put, z1, z2, z3, z4, z5, Nat.reduceAdd] at hF hR hK ⊢
          obtain ⟨r2, -⟩ := hR
          generalize vs 2 = x2 at *
          subst r2
          go_simp
          exact hK _ _ _ hI (Step.refl hI) rfl
        · intro vs g w2 hI hF hR K hK
          simp only [Facts, fill, Act.put, z1, z2, z3, z4, z5, Nat.reduceAdd] at hF hR hK ⊢
          obtain ⟨r3, -⟩ := hR
          generalize vs 3 = x3 at *
          subst r3
          go_simp
          exact hK _ _ _ hI (Step.refl hI) rfl
        · intro vs g w2 hI hF hR K hK
          simp only [Facts, fill, Act.put, z1, z2, z3, z4, z5, Nat.reduceAdd] at hF hR hK ⊢
          obtain ⟨r3, r4, -⟩ := hR
          generalize vs 3 = x3, vs 4 = x4 at *
          subst r3 r4
          go_simp
          exact hK _ _ _ hI (Step.refl hI) rfl
        · intro vs g w2 hI hF hR K hK
          simp only [Facts, fill, Act.put, z1, z2, z3, z4, z5, Nat.reduceAdd] at hF hR hK ⊢
          obtain ⟨r3, r5, -⟩ := hR
          generalize vs 3 = x3, vs 5 = x5 at *
          subst r3 r5
          go_simp
          exact hK _ _ _ hI (Step.refl hI) rfl
        · intro vs g w2 hI hF hR K hK
          simp only [Facts, fill, Act.put, z1, z2, z3, z4, z5, Nat.reduceAdd] at hF hR hK ⊢
          obtain ⟨r3, r6, -⟩ := hR
          generalize vs 3 = x3, vs 6 = x6 at *
          subst r3 r6
          go_simp
          exact hK _ _ _ hI (Step.refl hI) rfl
        · intro vs g w2 hI hF hR K hK
          simp only [Facts, fill, Act.put, z1, z2, z3, z4, z5, Nat.reduceAdd] at hF hR hK ⊢
          obtain ⟨r7, -⟩ := hR
          generalize vs 7 = x7 at *
          subst r7
          go_simp
          exact hK _ _ _ hI (Step.refl hI) rfl
        · intro vs g w2 hI hF hR K hK
          simp only [Facts, fill, Act.put, z1, z2, z3, z4, z5, Nat.reduceAdd] at hF hR hK ⊢
          obtain ⟨r8, -⟩ := hR
          generalize vs 8 = x8 at *
          subst r8
          go_simp
          exact hK _ _ _ hI (Step.refl hI) rfl
        · intro vs g w2 hI hF hR K hK
          simp only [Facts, fill, Act.put, z1, z2, z3, z4, z5, Nat.reduceAdd] at hF hR hK ⊢
          obtain ⟨r8, r9, -⟩ := hR
          generalize vs 8 = x8, vs 9 = x9 at *
          subst r8 r9
          go_simp
          exact hK _ _ _ hI (Step.refl hI) rfl
        · intro vs g w2 hI hF hR K hK
          simp only [Facts, fill, Act.put, z1, z2, z3, z4, z5, Nat.reduceAdd] at hF hR hK ⊢
          obtain ⟨r8, r10, -⟩ := hR
          generalize vs 8 = x8, vs 10 = x10 at *
          subst r8 r10
          go_simp
          exact hK _ _ _ hI (Step.refl hI) rfl
        · intro vs g w2 hI hF hR K hK
          simp only [Facts, fill, Act.put, z1, z2, z3, z4, z5, Nat.reduceAdd] at hF hR hK ⊢
          obtain ⟨r8, r11, -⟩ := hR
          generalize vs 8 = x8, vs 11 = x11 at *
          subst r8 r11
          go_simp
          exact hK _ _ _ hI (Step.refl hI) rfl
        · intro vs g w2 hI hF hR K hK
          simp only [Facts, fill, Act.put, z1, z2, z3, z4, z5, Nat.reduceAdd] at hF hR hK ⊢
          obtain ⟨r12, -⟩ := hR
          generalize vs 12 = x12 at *
          subst r12
          go_simp
          exact hK _ _ _ hI (Step.refl hI) rfl
        · intro vs g w2 hI hF hR K hK
          simp only [Facts, fill, Act.put, z1, z2, z3, z4, z5, Nat.reduceAdd] at hF hR hK ⊢
          obtain ⟨r13, -⟩ := hR
          generalize vs 13 = x13 at *
          subst r13
          go_simp
          exact hK _ _ _ hI (Step.refl hI) rfl
        · intro vs g w2 hI hF hR K hK
          simp only [Facts, fill, Act.put, z1, z2, z3, z4, z5, Nat.reduceAdd] at hF hR hK ⊢
          obtain ⟨r13, r14, -⟩ := hR
          generalize vs 13 = x13, vs 14 = x14 at *
          subst r13 r14
          go_simp
          exact hK _ _ _ hI (Step.refl hI) rfl
        · intro vs g w2 hI hF hR K hK
          simp only [Facts, fill, Act.put, z1, z2, z3, z4, z5, Nat.reduceAdd] at hF hR hK ⊢
          obtain ⟨r13, r15, -⟩ := hR
          generalize vs 13 = x13, vs 15 = x15 at *
          subst r13 r15
          go_simp
          exact hK _ _ _ hI (Step.refl hI) rfl
        · intro vs g w2 hI hF hR K hK
          simp only [Facts, fill, Act.put, z1, z2, z3, z4, z5, Nat.reduceAdd] at hF hR hK ⊢
          obtain ⟨r13, r16, -⟩ := hR
          generalize vs 13 = x13, vs 16 = x16 at *
          subst r13 r16
          go_simp
          exact hK _ _ _ hI (Step.refl hI) rfl
      case fin =>
        intro vs g wR3 hI hR
        have r17 := hR 17 (by decide)
        simp only [fill, Act.put, z1, z2, z3, z4, z5] at r17 ⊢
        clear hR
        generalize vs 17 = x17 at *
        have Cabc_R3_0 := Lib.hid (hI.cell Cabc_R2_0.out (fun _ h => by cases h))
        have Cabc_R3_1 := Lib.hid (hI.cell Cabc_R2_1.out (fun _ h => by cases h))
        have Cabc_R3_2 := Lib.hid (hI.cell Cabc_R2_2.out (fun _ h => by cases h))
        have Cabc_R3_3 := Lib.hid (hI.cell Cabc_R2_3.out (fun _ h => by cases h))
        have Cabc_R3_4 := Lib.hid (hI.cell Cabc_R2_4.out (fun _ h => by cases h))
        have Cabc_R3_5 := Lib.hid (hI.cell Cabc_R2_5.out (fun _ h => by cases h))
        have Cd_R3_0 := Lib.hid (hI.cell Cd_R2_0.out (fun _ h => by cases h))
        have Cd_R3_1 := Lib.hid (hI.cell Cd_R2_1.out (fun _ h => by cases h))
        have CR15_R3_0 := Lib.hid (hI.cell CR15_R2_0.out (fun _ h => by cases h))
        have CR15_R3_1 := Lib.hid (hI.cell CR15_R2_1.out (fun _ h => by cases h))
        have CR16_R3_0 := Lib.hid (hI.cell CR16_R2_0.out (fun _ h => by cases h))
        have CR16_R3_1 := Lib.hid (hI.cell CR16_R2_1.out (fun _ h => by cases h))
        have CR17_R3_0 := Lib.hid (hI.cell CR17_R2_0.out (fun _ h => by cases h))
        have CR17_R3_1 := Lib.hid (hI.cell CR17_R2_1.out (fun _ h => by cases h))
        have FR28_R3_0 := Lib.hid ((limR_firm _ _) _ _ _ _ _ FR28_R2_0.out hI.carry)
        have FR29_R3_0 := Lib.hid ((limR_firm _ _) _ _ _ _ _ FR29_R2_0.out hI.carry)
        have FR210_R3_0 := Lib.hid ((limR_firm _ _) _ _ _ _ _ FR210_R2_0.out hI.carry)
        have FR211_R3_0 := Lib.hid ((limR_firm _ _) _ _ _ _ _ FR211_R2_0.out hI.carry)
        subst r17
        have hBR3 := hI.below
        have HCR3 := hI.next HCR2
        clear hI
        go_upto_region 5 with (fail)
        refine box_plan0 (c := ⟨w, wR3, (fun _ => none)⟩) HCR3 [[], [(53, 0)], [], [(55, 2)], [(54, 1), (56, 3)], [], [(58, 5)], [(57, 4), (59, 6)], [], [(12, 8), (60, 7)]] [(53, 0), (54, 1), (55, 2), (56, 3), (57, 4), (58, 5), (59, 6), (60, 7), (12, 8)] [
            (fun v _ _ => v = .slice AvR28 3 cvR28),
            NumG 14 (det xa ya xb yb xd yd),
            (fun v _ _ => v = .slice AvR29 3 cvR29),
            NumG 14 (det xb yb xc yc xd yd),
            NumG 15 ((det xa ya xb yb xd yd) + (det xb yb xc yc xd yd)),
            (fun v _ _ => v = .slice AvR210 3 cvR210),
            NumG 14 (det xc yc xa ya xd yd),
            NumG 16 (((det xa ya xb yb xd yd) + (det xb yb xc yc xd yd)) + (det xc yc xa ya xd yd)),
            PtrR 8 2,
            (fun _ g w => BoxR 8 (NumG 16 (((det xa ya xb yb xd yd) + (det xb yb xc yc xd yd)) + (det xc yc xa ya xd yd))) g w)
          ] (fun i => match i with | 8 => some 9 | _ => none) (by kernel_rfl) (by kernel_rfl) ⟨stab_eq, stab_firm (numG_firm _ _), stab_eq, stab_firm (numG_firm _ _), stab_firm (numG_firm _ _), stab_eq, stab_firm (numG_firm _ _), stab_firm (numG_firm _ _), stab_ptr, stab_box (numG_firm _ _) rfl, trivial⟩ ?steps ?fin
        case steps =>
          refine ⟨?_, ?_, ?_, ?_, ?_, ?_, ?_, ?_, ?_, ?_, trivial⟩
          · intro vs g w2 hI hF hR K hK
            simp only [Facts, fill, Act.put, z1, z2, z3, z4, z5, Nat.reduceAdd] at hF hR hK ⊢
            go_simp
            exact hK _ _ _ hI (Step.refl hI) rfl
          · intro vs g w2 hI hF hR K hK
            simp only [Facts, fill, Act.put, z1, z2, z3, z4, z5, Nat.reduceAdd] at hF hR hK ⊢
            obtain ⟨r0, -⟩ := hR
            generalize vs 0 = x0 at *
            subst r0
            go_simp
            refine (gValueF hI ((limR_firm _ _) _ _ _ _ _ FR28_R3_0.out hI.keeps) (by decide) (det_fit (by first | assumption | (unfold S; decide)) (by first | assumption | (unfold S; decide)) (by first | assumption | (unfold S; decide)) (by first | assumption | (unfold S; decide)) (by first | assumption | (unfold S; decide)) (by first | assumption | (unfold S; decide)))).mono ?_
            rintro e w3 ⟨v3, rfl, hv, hb⟩
            exact hK _ _ _ (hI.call hb) (Step.call hI hb) hv
          · intro vs g w2 hI hF hR K hK
            simp only [Facts, fill, Act.put, z1, z2, z3, z4, z5, Nat.reduceAdd] at hF hR hK ⊢
            go_simp
            exact hK _ _ _ hI (Step.refl hI) rfl
          · intro vs g w2 hI hF hR K hK
            simp only [Facts, fill, Act.put, z1, z2, z3, z4, z5, Nat.reduceAdd] at hF hR hK ⊢
            obtain ⟨r2, -⟩ := hR
            generalize vs 2 = x2 at *
            subst r2
            go_simp
            refine (gValueF hI ((limR_firm _ _) _ _ _ _ _ FR29_R3_0.out hI.keeps) (by decide) (det_fit (by first | assumption | (unfold S; decide)) (by first | assumption | (unfold S; decide)) (by first | assumption | (unfold S; decide)) (by first | assumption | (unfold S; decide)) (by first | assumption | (unfold S; decide)) (by first | assumption | (unfold S; decide)))).mono ?_
            rintro e w3 ⟨v3, rfl, hv, hb⟩
            exact hK _ _ _ (hI.call hb) (Step.call hI hb) hv
          · intro vs g w2 hI hF hR K hK
            simp only [Facts, fill, Act.put, z1, z2, z3, z4, z5, Nat.reduceAdd] at hF hR hK ⊢
            obtain ⟨r1, r3, -⟩ := hR
            generalize vs 1 = x1, vs 3 = x3 at *
            go_simp
            refine (gAdd hI r1 r3 (by decide) (by decide)).mono ?_
            rintro e w3 ⟨v3, rfl, hv, hb⟩
            exact hK _ _ _ (hI.call hb) (Step.call hI hb) hv
          · intro vs g w2 hI hF hR K hK
            simp only [Facts, fill, Act.put, z1, z2, z3, z4, z5, Nat.reduceAdd] at hF hR hK ⊢
            go_simp
            exact hK _ _ _ hI (Step.refl hI) rfl
          · intro vs g w2 hI hF hR K hK
            simp only [Facts, fill, Act.put, z1, z2, z3, z4, z5, Nat.reduceAdd] at hF hR hK ⊢
            obtain ⟨r5, -⟩ := hR
            generalize vs 5 = x5 at *
            subst r5
            go_simp
            refine (gValueF hI ((limR_firm _ _) _ _ _ _ _ FR210_R3_0.out hI.keeps) (by decide) (det_fit (by first | assumption | (unfold S; decide)) (by first | assumption | (unfold S; decide)) (by first | assumption | (unfold S; decide)) (by first | assumption | (unfold S; decide)) (by first | assumption | (unfold S; decide)) (by first | assumption | (unfold S; decide)))).mono ?_
            rintro e w3 ⟨v3, rfl, hv, hb⟩
            exact hK _ _ _ (hI.call hb) (Step.call hI hb) hv
          · intro vs g w2 hI hF hR K hK
            simp only [Facts, fill, Act.put, z1, z2, z3, z4, z5, Nat.reduceAdd] at hF hR hK ⊢
            obtain ⟨r4, r6, -⟩ := hR
            generalize vs 4 = x4, vs 6 = x6 at *
            go_simp
            refine (gAdd hI r4 r6 (by decide) (by decide)).mono ?_
            rintro e w3 ⟨v3, rfl, hv, hb⟩
            exact hK _ _ _ (hI.call hb) (Step.call hI hb) hv
          · intro vs g w2 hI hF hR K hK
            simp only [Facts, fill, Act.put, z1, z2, z3, z4, z5, Nat.reduceAdd] at hF hR hK ⊢
            go_simp
            exact hK _ _ _ (hI.alloc _ (hF (by decide)) _) (Step.alloc hI (hF (by decide)) _) ⟨_, rfl, more_at _ _ _, box2' _ _ _ _⟩
          · intro vs g w2 hI hF hR K hK
            simp only [Facts, fill, Act.put, z1, z2, z3, z4, z5, Nat.reduceAdd] at hF hR hK ⊢
            obtain ⟨r8, r7, -⟩ := hR
            generalize vs 8 = x8, vs 7 = x7 at *
            obtain ⟨k, rfl, hk, hbx⟩ := r8
            have qx := r7
            obtain ⟨s9, A9, n9, c9, rfl, hs9⟩ := numG_open r7
            obtain ⟨⟨u0, k0⟩, f0⟩ := hbx 0 (by decide)
            obtain ⟨⟨u1, k1⟩, f1⟩ := hbx 1 (by decide)
            go_simp
            have ht := (((Touch.refl w2 k).set 0 (.int .i64 s9)).set 1 (.slice A9 n9 c9))
            exact hK undef _ _ (hI.store (by decide) hk ht) (Step.store hI rfl hk ht) ⟨k, .agg #[.int .i64 s9, .slice A9 n9 c9], hk, by rw [ht.size]; exact hI.lt _ _ hk, cells2 k0 k1 (.int .i64 s9) (.slice A9 n9 c9), ((numG_firm _ _) _ _ _ _ _ qx (ht.keeps hk))⟩
        case fin =>
          intro vs g wR5 hI hR
          have r8 := hR 8 (by decide)
          have r9 := hR 9 (by decide)
          simp only [fill, Act.put, z1, z2, z3, z4, z5] at r8 r9 ⊢
          clear hR
          generalize vs 8 = x8 at *
          generalize vs 9 = x9 at *
          have Cabc_R5_0 := Lib.hid (hI.cell Cabc_R3_0.out (fun _ h => by cases h))
          have Cabc_R5_1 := Lib.hid (hI.cell Cabc_R3_1.out (fun _ h => by cases h))
          have Cabc_R5_2 := Lib.hid (hI.cell Cabc_R3_2.out (fun _ h => by cases h))
          have Cabc_R5_3 := Lib.hid (hI.cell Cabc_R3_3.out (fun _ h => by cases h))
          have Cabc_R5_4 := Lib.hid (hI.cell Cabc_R3_4.out (fun _ h => by cases h))
          have Cabc_R5_5 := Lib.hid (hI.cell Cabc_R3_5.out (fun _ h => by cases h))
          have Cd_R5_0 := Lib.hid (hI.cell Cd_R3_0.out (fun _ h => by cases h))
          have Cd_R5_1 := Lib.hid (hI.cell Cd_R3_1.out (fun _ h => by cases h))
          have CR15_R5_0 := Lib.hid (hI.cell CR15_R3_0.out (fun _ h => by cases h))
          have CR15_R5_1 := Lib.hid (hI.cell CR15_R3_1.out (fun _ h => by cases h))
          have CR16_R5_0 := Lib.hid (hI.cell CR16_R3_0.out (fun _ h => by cases h))
          have CR16_R5_1 := Lib.hid (hI.cell CR16_R3_1.out (fun _ h => by cases h))
          have CR17_R5_0 := Lib.hid (hI.cell CR17_R3_0.out (fun _ h => by cases h))
          have CR17_R5_1 := Lib.hid (hI.cell CR17_R3_1.out (fun _ h => by cases h))
          have FR28_R5_0 := Lib.hid ((limR_firm _ _) _ _ _ _ _ FR28_R3_0.out hI.carry)
          have FR29_R5_0 := Lib.hid ((limR_firm _ _) _ _ _ _ _ FR29_R3_0.out hI.carry)
          have FR210_R5_0 := Lib.hid ((limR_firm _ _) _ _ _ _ _ FR210_R3_0.out hI.carry)
          have FR211_R5_0 := Lib.hid ((limR_firm _ _) _ _ _ _ _ FR211_R3_0.out hI.carry)
          obtain ⟨pR512, rfl, hkR512, -⟩ := r8
          obtain ⟨qR512, uR512, hqR512, -, hcR512, hrR512⟩ := r9
          rw [hkR512] at hqR512
          injection hqR512 with hqR512
          subst hqR512
          have qfR512 := hrR512
          obtain ⟨svR512, AvR512, nvR512, cvR512, rfl, hsvR512⟩ := numG_open hrR512
          have FR512_R5_0 := Lib.hid ((numG_firm _ _) _ _ _ _ _ qfR512 hI.back)
          clear qfR512
          have FR512_R5_1 := Lib.hid (numG_sign FR512_R5_0.out)
          have CR512_R5_0 := Lib.hid (hcR512 0 _ rfl)
          have CR512_R5_1 := Lib.hid (hcR512 1 _ rfl)
          clear hcR512 hkR512
          have hBR5 := hI.below
          have HCR5 := hI.next HCR3
          clear hI
          go_upto_region 6 with (fail)
          refine box_plan (c := ⟨w, wR5, (fun _ => none)⟩) HCR5 (by kernel_rfl) [[], [(61, 0)], [(62, 1)], [(62, 1)], [(62, 1), (64, 3)], [(62, 1), (63, 2), (65, 4)], [(62, 1), (66, 5)], [(62, 1), (67, 6)], [(62, 1), (68, 7)], [(69, 8)]] [(61, 0), (62, 1), (63, 2), (64, 3), (65, 4), (66, 5), (67, 6), (68, 7), (69, 8), (4, 9)] [
              (fun v _ _ => v = .bool true),
              (fun v _ _ => v = .bool true),
              (fun v _ _ => v = .agg #[.int .i64 svR512, .slice AvR512 nvR512 cvR512]),
              (fun v _ _ => v = .slice AvR211 3 cvR211),
              NumG 14 (det xa ya xb yb xc yc),
              NumG 17 ((((det xa ya xb yb xd yd) + (det xb yb xc yc xd yd)) + (det xc yc xa ya xd yd)) - (det xa ya xb yb xc yc)),
              SignR ((((det xa ya xb yb xd yd) + (det xb yb xc yc xd yd)) + (det xc yc xa ya xd yd)) - (det xa ya xb yb xc yc)),
              (fun v _ _ => v = .bool true),
              (fun v _ _ => v = .bool true),
              (fun v _ _ => v = .bool true)
            ] (fun _ => none) (by kernel_rfl) (by kernel_rfl) ⟨stab_eq, stab_eq, stab_eq, stab_eq, stab_firm (numG_firm _ _), stab_firm (numG_firm _ _), stab_firm (signR_firm _), stab_eq, stab_eq, stab_eq, trivial⟩ ?steps ?fin
          case steps =>
            refine ⟨?_, ?_, ?_, ?_, ?_, ?_, ?_, ?_, ?_, ?_, trivial⟩
            · intro vs g w2 hI hF hR K hK
              simp only [Facts, fill, Act.put, z1, z2, z3, z4, z5, Nat.reduceAdd] at hF hR hK ⊢
              go_simp
              refine (gAlive6 hI hw).mono ?_
              rintro e w3 ⟨v3, rfl, hv, hb⟩
              exact hK _ _ _ (hI.call hb) (Step.call hI hb) hv
            · intro vs g w2 hI hF hR K hK
              simp only [Facts, fill, Act.put, z1, z2, z3, z4, z5, Nat.reduceAdd] at hF hR hK ⊢
              obtain ⟨r0, -⟩ := hR
              generalize vs 0 = x0 at *
              subst r0
              go_simp
              exact hK _ _ _ hI (Step.refl hI) rfl
            · intro vs g w2 hI hF hR K hK
              simp only [Facts, fill, Act.put, z1, z2, z3, z4, z5, Nat.reduceAdd] at hF hR hK ⊢
              obtain ⟨r1, -⟩ := hR
              generalize vs 1 = x1 at *
              subst r1
              have k0 := hI.cell CR512_R5_0.out (fun _ h => by cases h)
              have k1 := hI.cell CR512_R5_1.out (fun _ h => by cases h)
              go_simp
              exact hK _ _ _ hI (Step.refl hI) rfl
            · intro vs g w2 hI hF hR K hK
              simp only [Facts, fill, Act.put, z1, z2, z3, z4, z5, Nat.reduceAdd] at hF hR hK ⊢
              obtain ⟨r1, -⟩ := hR
              generalize vs 1 = x1 at *
              subst r1
              go_simp
              exact hK _ _ _ hI (Step.refl hI) rfl
            · intro vs g w2 hI hF hR K hK
              simp only [Facts, fill, Act.put, z1, z2, z3, z4, z5, Nat.reduceAdd] at hF hR hK ⊢
              obtain ⟨r1, r3, -⟩ := hR
              generalize vs 1 = x1, vs 3 = x3 at *
              subst r1 r3
              go_simp
              refine (gValueF hI ((limR_firm _ _) _ _ _ _ _ FR211_R5_0.out hI.keeps) (by decide) (det_fit (by first | assumption | (unfold S; decide)) (by first | assumption | (unfold S; decide)) (by first | assumption | (unfold S; decide)) (by first | assumption | (unfold S; decide)) (by first | assumption | (unfold S; decide)) (by first | assumption | (unfold S; decide)))).mono ?_
              rintro e w3 ⟨v3, rfl, hv, hb⟩
              exact hK _ _ _ (hI.call hb) (Step.call hI hb) hv
            · intro vs g w2 hI hF hR K hK
              simp only [Facts, fill, Act.put, z1, z2, z3, z4, z5, Nat.reduceAdd] at hF hR hK ⊢
              obtain ⟨r1, r2, r4, -⟩ := hR
              generalize vs 1 = x1, vs 2 = x2, vs 4 = x4 at *
              subst r1 r2
              go_simp
              refine (gSub hI ((numG_firm _ _) _ _ _ _ _ FR512_R5_0.out hI.keeps) r4 (by decide) (by decide)).mono ?_
              rintro e w3 ⟨v3, rfl, hv, hb⟩
              exact hK _ _ _ (hI.call hb) (Step.call hI hb) hv
            · intro vs g w2 hI hF hR K hK
              simp only [Facts, fill, Act.put, z1, z2, z3, z4, z5, Nat.reduceAdd] at hF hR hK ⊢
              obtain ⟨r1, r5, -⟩ := hR
              generalize vs 1 = x1, vs 5 = x5 at *
              subst r1
              obtain ⟨s6, A6, n6, c6, rfl, hs6⟩ := numG_open r5
              go_simp
              exact hK _ _ _ hI (Step.refl hI) hs6
            · intro vs g w2 hI hF hR K hK
              simp only [Facts, fill, Act.put, z1, z2, z3, z4, z5, Nat.reduceAdd] at hF hR hK ⊢
              obtain ⟨r1, r6, -⟩ := hR
              generalize vs 1 = x1, vs 6 = x6 at *
              subst r1
              obtain ⟨s7, rfl, hs7⟩ := r6
              have hz := sign_is (x := (((det xa ya xb yb xd yd) + (det xb yb xc yc xd yd)) + (det xc yc xa ya xd yd)) - (det xa ya xb yb xc yc)) (k := 0) ⟨s7, rfl, hs7⟩ (by rw [Int.sign_eq_zero_iff_zero]; (unfold det; grind))
              clear hs7
              go_simp
              exact hK _ _ _ hI (Step.refl hI) rfl
            · intro vs g w2 hI hF hR K hK
              simp only [Facts, fill, Act.put, z1, z2, z3, z4, z5, Nat.reduceAdd] at hF hR hK ⊢
              obtain ⟨r1, r7, -⟩ := hR
              generalize vs 1 = x1, vs 7 = x7 at *
              subst r1 r7
              go_simp
              exact hK _ _ _ hI (Step.refl hI) rfl
            · intro vs g w2 hI hF hR K hK
              simp only [Facts, fill, Act.put, z1, z2, z3, z4, z5, Nat.reduceAdd] at hF hR hK ⊢
              obtain ⟨r8, -⟩ := hR
              generalize vs 8 = x8 at *
              subst r8
              go_simp
              exact hK _ _ _ hI (Step.refl hI) rfl
          case fin =>
            intro vs g wR6 hI hR
            have r9 := hR 9 (by decide)
            simp only [fill, Act.put, z1, z2, z3, z4, z5] at r9 ⊢
            clear hR
            generalize vs 9 = x9 at *
            have Cabc_R6_0 := Lib.hid (hI.cell Cabc_R5_0.out (fun _ h => by cases h))
            have Cabc_R6_1 := Lib.hid (hI.cell Cabc_R5_1.out (fun _ h => by cases h))
            have Cabc_R6_2 := Lib.hid (hI.cell Cabc_R5_2.out (fun _ h => by cases h))
            have Cabc_R6_3 := Lib.hid (hI.cell Cabc_R5_3.out (fun _ h => by cases h))
            have Cabc_R6_4 := Lib.hid (hI.cell Cabc_R5_4.out (fun _ h => by cases h))
            have Cabc_R6_5 := Lib.hid (hI.cell Cabc_R5_5.out (fun _ h => by cases h))
            have Cd_R6_0 := Lib.hid (hI.cell Cd_R5_0.out (fun _ h => by cases h))
            have Cd_R6_1 := Lib.hid (hI.cell Cd_R5_1.out (fun _ h => by cases h))
            have CR15_R6_0 := Lib.hid (hI.cell CR15_R5_0.out (fun _ h => by cases h))
            have CR15_R6_1 := Lib.hid (hI.cell CR15_R5_1.out (fun _ h => by cases h))
            have CR16_R6_0 := Lib.hid (hI.cell CR16_R5_0.out (fun _ h => by cases h))
            have CR16_R6_1 := Lib.hid (hI.cell CR16_R5_1.out (fun _ h => by cases h))
            have CR17_R6_0 := Lib.hid (hI.cell CR17_R5_0.out (fun _ h => by cases h))
            have CR17_R6_1 := Lib.hid (hI.cell CR17_R5_1.out (fun _ h => by cases h))
            have FR28_R6_0 := Lib.hid ((limR_firm _ _) _ _ _ _ _ FR28_R5_0.out hI.carry)
            have FR29_R6_0 := Lib.hid ((limR_firm _ _) _ _ _ _ _ FR29_R5_0.out hI.carry)
            have FR210_R6_0 := Lib.hid ((limR_firm _ _) _ _ _ _ _ FR210_R5_0.out hI.carry)
            have FR211_R6_0 := Lib.hid ((limR_firm _ _) _ _ _ _ _ FR211_R5_0.out hI.carry)
            have CR512_R6_0 := Lib.hid (hI.cell CR512_R5_0.out (fun _ h => by cases h))
            have CR512_R6_1 := Lib.hid (hI.cell CR512_R5_1.out (fun _ h => by cases h))
            have FR512_R6_0 := Lib.hid ((numG_firm _ _) _ _ _ _ _ FR512_R5_0.out hI.carry)
            have FR512_R6_1 := Lib.hid ((signR_firm _) _ _ _ _ _ FR512_R5_1.out hI.carry)
            subst r9
            have hBR6 := hI.below
            have HCR6 := hI.next HCR5
            clear hI
            go_wp2
            go_ret
            exact ⟨rfl, hBR6⟩
end Go.Proofs.YthnhabfnjjbfaaaDoor
