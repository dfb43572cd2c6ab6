/-
  Law CircleOnItself. (Written by law5.py.)
-/
import Derived.Test.YtckeognbfdladaaDoorLaw7a
namespace Go.Proofs.YtckeognbfdladaaDoor
open Go.RowKit
set_option maxRecDepth 100000
set_option linter.unusedVariables false
set_option linter.unusedSimpArgs false

set_option maxRecDepth 100000 in
set_option maxHeartbeats 4000000 in
theorem law7I_Y (xa ya xb yb xc yc xd yd : Int) (w : World) (hw : Wts w) (sxa : S xa) (sya : S ya) (sxb : S xb) (syb : S yb) (sxc : S xc) (syc : S yc) (sxd : S xd) (syd : S yd) (hdet : det xa ya xb yb xc yc = 0) :
    Calls Tryd.prog 8 #[.agg #[.int .i64 xa, .int .i64 ya, .int .i64 xb, .int .i64 yb, .int .i64 xc, .int .i64 yc, .int .i64 xd, .int .i64 yd]] w fun e w' => e = .returned (.bool true) ∧ Below w.heap.size w w' := by
  have HDET := Lib.hid hdet
  clear hdet
  obtain ⟨W, hW⟩ : ∃ W, W = w.alloc (.cells #[.int .i64 xa, .int .i64 ya, .int .i64 xb, .int .i64 yb, .int .i64 xc, .int .i64 yc, .int .i64 xd, .int .i64 yd] 24) := ⟨_, rfl⟩
  have hb0 : Below w.heap.size w W := by rw [hW]; exact ((Below.refl _ _).alloc (Nat.le_refl _) _)
  have Cp_W_0 := Lib.hid (show W.cell? ⟨w.heap.size, 0, none⟩ = some (.int .i64 xa) by rw [hW]; simp [go_sem])
  have Cp_W_1 := Lib.hid (show W.cell? ⟨w.heap.size, 1, none⟩ = some (.int .i64 ya) by rw [hW]; simp [go_sem])
  have Cp_W_2 := Lib.hid (show W.cell? ⟨w.heap.size, 2, none⟩ = some (.int .i64 xb) by rw [hW]; simp [go_sem])
  have Cp_W_3 := Lib.hid (show W.cell? ⟨w.heap.size, 3, none⟩ = some (.int .i64 yb) by rw [hW]; simp [go_sem])
  have Cp_W_4 := Lib.hid (show W.cell? ⟨w.heap.size, 4, none⟩ = some (.int .i64 xc) by rw [hW]; simp [go_sem])
  have Cp_W_5 := Lib.hid (show W.cell? ⟨w.heap.size, 5, none⟩ = some (.int .i64 yc) by rw [hW]; simp [go_sem])
  have Cp_W_6 := Lib.hid (show W.cell? ⟨w.heap.size, 6, none⟩ = some (.int .i64 xd) by rw [hW]; simp [go_sem])
  have Cp_W_7 := Lib.hid (show W.cell? ⟨w.heap.size, 7, none⟩ = some (.int .i64 yd) by rw [hW]; simp [go_sem])
  have HW := Lib.hid hW
  clear hW
  go_enter Tryd.func8, Tryd.ntmps8
  go_upto_region 1 with (fail)
  rw [← HW.out]
  refine box_plan0 (c := ⟨w, W, (fun _ => none)⟩) (Ctx.ok_none hb0) [[], [(4, 0)], [], [(6, 2)], [], [(8, 4)], [(5, 1), (7, 3), (9, 5)], [(10, 6)]] [(4, 0), (5, 1), (6, 2), (7, 3), (8, 4), (9, 5), (10, 6), (11, 7)] [
      (fun v _ _ => v = .pointer (some ⟨w.heap.size, 0, none⟩)),
      (fun v _ _ => v = .agg #[.int .i64 xa, .int .i64 ya]),
      (fun v _ _ => v = .pointer (some ⟨w.heap.size, 2, none⟩)),
      (fun v _ _ => v = .agg #[.int .i64 xb, .int .i64 yb]),
      (fun v _ _ => v = .pointer (some ⟨w.heap.size, 4, none⟩)),
      (fun v _ _ => v = .agg #[.int .i64 xc, .int .i64 yc]),
      SignR (det xa ya xb yb xc yc),
      (fun v _ _ => v = .bool true)
    ] (fun _ => none) (by kernel_rfl) (by kernel_rfl) ⟨stab_eq, stab_eq, stab_eq, stab_eq, stab_eq, stab_eq, stab_firm (signR_firm _), stab_eq, trivial⟩ ?steps ?fin
  case steps =>
    refine ⟨?_, ?_, ?_, ?_, ?_, ?_, ?_, ?_, trivial⟩
    · intro vs g w2 hI hF hR K hK
      simp only [Facts, fill, Act.put, z1, z2, z3, z4, z5, Nat.reduceAdd] at hF hR hK ⊢
      go_simp
      exact hK _ _ _ hI (Step.refl hI) rfl
    · intro vs g w2 hI hF hR K hK
      simp only [Facts, fill, Act.put, z1, z2, z3, z4, z5, Nat.reduceAdd] at hF hR hK ⊢
      obtain ⟨r0, -⟩ := hR
      generalize vs 0 = x0 at *
      subst r0
      have k0 := hI.cell Cp_W_0.out (fun _ h => by cases h)
      have k1 := hI.cell Cp_W_1.out (fun _ h => by cases h)
      go_simp
      exact hK _ _ _ hI (Step.refl hI) rfl
    · intro vs g w2 hI hF hR K hK
      simp only [Facts, fill, Act.put, z1, z2, z3, z4, z5, Nat.reduceAdd] at hF hR hK ⊢
      go_simp
      exact hK _ _ _ hI (Step.refl hI) rfl
    · intro vs g w2 hI hF hR K hK
      simp only [Facts, fill, Act.put, z1, z2, z3, z4, z5, Nat.reduceAdd] at hF hR hK ⊢
      obtain ⟨r2, -⟩ := hR
      generalize vs 2 = x2 at *
      subst r2
      have k0 := hI.cell Cp_W_2.out (fun _ h => by cases h)
      have k1 := hI.cell Cp_W_3.out (fun _ h => by cases h)
      go_simp
      exact hK _ _ _ hI (Step.refl hI) rfl
    · intro vs g w2 hI hF hR K hK
      simp only [Facts, fill, Act.put, z1, z2, z3, z4, z5, Nat.reduceAdd] at hF hR hK ⊢
      go_simp
      exact hK _ _ _ hI (Step.refl hI) rfl
    · intro vs g w2 hI hF hR K hK
      simp only [Facts, fill, Act.put, z1, z2, z3, z4, z5, Nat.reduceAdd] at hF hR hK ⊢
      obtain ⟨r4, -⟩ := hR
      generalize vs 4 = x4 at *
      subst r4
      have k0 := hI.cell Cp_W_4.out (fun _ h => by cases h)
      have k1 := hI.cell Cp_W_5.out (fun _ h => by cases h)
      go_simp
      exact hK _ _ _ hI (Step.refl hI) rfl
    · intro vs g w2 hI hF hR K hK
      simp only [Facts, fill, Act.put, z1, z2, z3, z4, z5, Nat.reduceAdd] at hF hR hK ⊢
      obtain ⟨r1, r3, r5, -⟩ := hR
      generalize vs 1 = x1, vs 3 = x3, vs 5 = x5 at *
      subst r1 r3 r5
      go_simp
      refine (gRef6Sign hI (by first | assumption | (unfold S; decide)) (by first | assumption | (unfold S; decide)) (by first | assumption | (unfold S; decide)) (by first | assumption | (unfold S; decide)) (by first | assumption | (unfold S; decide)) (by first | assumption | (unfold S; decide))).mono ?_
      rintro e w3 ⟨v3, rfl, hv, hb⟩
      exact hK _ _ _ (hI.call hb) (Step.call hI hb) hv
    · intro vs g w2 hI hF hR K hK
      simp only [Facts, fill, Act.put, z1, z2, z3, z4, z5, Nat.reduceAdd] at hF hR hK ⊢
      obtain ⟨r6, -⟩ := hR
      generalize vs 6 = x6 at *
      obtain ⟨sq, rfl, hsq⟩ := r6
      have hz := sign_is (x := det xa ya xb yb xc yc) (k := 0) ⟨sq, rfl, hsq⟩ (by rw [HDET.out]; rfl)
      clear hsq
      have hz2 : (sq != 0) = false := by rw [bne, hz]; rfl
      go_simp
      exact hK _ _ _ hI (Step.refl hI) rfl
  case fin =>
    intro vs g wR1 hI hR
    have r7 := hR 7 (by decide)
    simp only [fill, Act.put, z1, z2, z3, z4, z5] at r7 ⊢
    clear hR
    generalize vs 7 = x7 at *
    have Cp_R1_0 := Lib.hid (hI.cell Cp_W_0.out (fun _ h => by cases h))
    have Cp_R1_1 := Lib.hid (hI.cell Cp_W_1.out (fun _ h => by cases h))
    have Cp_R1_2 := Lib.hid (hI.cell Cp_W_2.out (fun _ h => by cases h))
    have Cp_R1_3 := Lib.hid (hI.cell Cp_W_3.out (fun _ h => by cases h))
    have Cp_R1_4 := Lib.hid (hI.cell Cp_W_4.out (fun _ h => by cases h))
    have Cp_R1_5 := Lib.hid (hI.cell Cp_W_5.out (fun _ h => by cases h))
    have Cp_R1_6 := Lib.hid (hI.cell Cp_W_6.out (fun _ h => by cases h))
    have Cp_R1_7 := Lib.hid (hI.cell Cp_W_7.out (fun _ h => by cases h))
    subst r7
    have hBR1 := hI.below
    have HCR1 := hI.next (Ctx.ok_none hb0)
    clear hI
    go_upto_region 2 with (fail)
    refine box_plan0 (c := ⟨w, wR1, (fun _ => none)⟩) HCR1 [[], [(12, 0)], [(13, 1)], [(13, 1), (14, 2)], [(13, 1)], [(13, 1), (16, 4)], [(13, 1)], [(13, 1), (18, 6)], [(13, 1)], [(13, 1), (20, 8)], [(13, 1), (15, 3), (17, 5), (19, 7), (21, 9)], [(13, 1), (22, 10)], [(13, 1), (23, 11)], [(24, 12)]] [(12, 0), (13, 1), (14, 2), (15, 3), (16, 4), (17, 5), (18, 6), (19, 7), (20, 8), (21, 9), (22, 10), (23, 11), (24, 12), (2, 13)] [
        (fun v _ _ => v = .bool true),
        (fun v _ _ => v = .bool true),
        (fun v _ _ => v = .pointer (some ⟨w.heap.size, 0, none⟩)),
        (fun v _ _ => v = .agg #[.int .i64 xa, .int .i64 ya]),
        (fun v _ _ => v = .pointer (some ⟨w.heap.size, 2, none⟩)),
        (fun v _ _ => v = .agg #[.int .i64 xb, .int .i64 yb]),
        (fun v _ _ => v = .pointer (some ⟨w.heap.size, 4, none⟩)),
        (fun v _ _ => v = .agg #[.int .i64 xc, .int .i64 yc]),
        (fun v _ _ => v = .pointer (some ⟨w.heap.size, 6, none⟩)),
        (fun v _ _ => v = .agg #[.int .i64 xd, .int .i64 yd]),
        SignR ((lc xa ya xb yb xc yc xd yd) * (det xa ya xb yb xc yc)),
        (fun v _ _ => v = .bool true),
        (fun v _ _ => v = .bool true),
        (fun v _ _ => v = .bool true)
      ] (fun _ => none) (by kernel_rfl) (by kernel_rfl) ⟨stab_eq, stab_eq, stab_eq, stab_eq, stab_eq, stab_eq, stab_eq, stab_eq, stab_eq, stab_eq, stab_firm (signR_firm _), stab_eq, stab_eq, stab_eq, trivial⟩ ?steps ?fin
    case steps =>
      refine ⟨?_, ?_, ?_, ?_, ?_, ?_, ?_, ?_, ?_, ?_, ?_, ?_, ?_, ?_, trivial⟩
      · intro vs g w2 hI hF hR K hK
        simp only [Facts, fill, Act.put, z1, z2, z3, z4, z5, Nat.reduceAdd] at hF hR hK ⊢
        go_simp
        refine (gAlive7 hI hw).mono ?_
        rintro e w3 ⟨v3, rfl, hv, hb⟩
        exact hK _ _ _ (hI.call hb) (Step.call hI hb) hv
      · intro vs g w2 hI hF hR K hK
        simp only [Facts, fill, Act.put, z1, z2, z3, z4, z5, Nat.reduceAdd] at hF hR hK ⊢
        obtain ⟨r0, -⟩ := hR
        generalize vs 0 = x0 at *
        subst r0
        go_simp
        exact hK _ _ _ hI (Step.refl hI) rfl
      · intro vs g w2 hI hF hR K hK
        simp only [Facts, fill, Act.put, z1, z2, z3, z4, z5, Nat.reduceAdd] at hF hR hK ⊢
        obtain ⟨r1, -⟩ := hR
        generalize vs 1 = x1 at *
        subst r1
        go_simp
        exact hK _ _ _ hI (Step.refl hI) rfl
      · intro vs g w2 hI hF hR K hK
        simp only [Facts, fill, Act.put, z1, z2, z3, z4, z5, Nat.reduceAdd] at hF hR hK ⊢
        obtain ⟨r1, r2, -⟩ := hR
        generalize vs 1 = x1, vs 2 = x2 at *
        subst r1 r2
        have k0 := hI.cell Cp_R1_0.out (fun _ h => by cases h)
        have k1 := hI.cell Cp_R1_1.out (fun _ h => by cases h)
        go_simp
        exact hK _ _ _ hI (Step.refl hI) rfl
      · intro vs g w2 hI hF hR K hK
        simp only [Facts, fill, Act.put, z1, z2, z3, z4, z5, Nat.reduceAdd] at hF hR hK ⊢
        obtain ⟨r1, -⟩ := hR
        generalize vs 1 = x1 at *
        subst r1
        go_simp
        exact hK _ _ _ hI (Step.refl hI) rfl
      · intro vs g w2 hI hF hR K hK
        simp only [Facts, fill, Act.put, z1, z2, z3, z4, z5, Nat.reduceAdd] at hF hR hK ⊢
        obtain ⟨r1, r4, -⟩ := hR
        generalize vs 1 = x1, vs 4 = x4 at *
        subst r1 r4
        have k0 := hI.cell Cp_R1_2.out (fun _ h => by cases h)
        have k1 := hI.cell Cp_R1_3.out (fun _ h => by cases h)
        go_simp
        exact hK _ _ _ hI (Step.refl hI) rfl
      · intro vs g w2 hI hF hR K hK
        simp only [Facts, fill, Act.put, z1, z2, z3, z4, z5, Nat.reduceAdd] at hF hR hK ⊢
        obtain ⟨r1, -⟩ := hR
        generalize vs 1 = x1 at *
        subst r1
        go_simp
        exact hK _ _ _ hI (Step.refl hI) rfl
      · intro vs g w2 hI hF hR K hK
        simp only [Facts, fill, Act.put, z1, z2, z3, z4, z5, Nat.reduceAdd] at hF hR hK ⊢
        obtain ⟨r1, r6, -⟩ := hR
        generalize vs 1 = x1, vs 6 = x6 at *
        subst r1 r6
        have k0 := hI.cell Cp_R1_4.out (fun _ h => by cases h)
        have k1 := hI.cell Cp_R1_5.out (fun _ h => by cases h)
        go_simp
        exact hK _ _ _ hI (Step.refl hI) rfl
      · intro vs g w2 hI hF hR K hK
        simp only [Facts, fill, Act.put, z1, z2, z3, z4, z5, Nat.reduceAdd] at hF hR hK ⊢
        obtain ⟨r1, -⟩ := hR
        generalize vs 1 = x1 at *
        subst r1
        go_simp
        exact hK _ _ _ hI (Step.refl hI) rfl
      · intro vs g w2 hI hF hR K hK
        simp only [Facts, fill, Act.put, z1, z2, z3, z4, z5, Nat.reduceAdd] at hF hR hK ⊢
        obtain ⟨r1, r8, -⟩ := hR
        generalize vs 1 = x1, vs 8 = x8 at *
        subst r1 r8
        have k0 := hI.cell Cp_R1_6.out (fun _ h => by cases h)
        have k1 := hI.cell Cp_R1_7.out (fun _ h => by cases h)
        go_simp
        exact hK _ _ _ hI (Step.refl hI) rfl
      · intro vs g w2 hI hF hR K hK
        simp only [Facts, fill, Act.put, z1, z2, z3, z4, z5, Nat.reduceAdd] at hF hR hK ⊢
        obtain ⟨r1, r3, r5, r7, r9, -⟩ := hR
        generalize vs 1 = x1, vs 3 = x3, vs 5 = x5, vs 7 = x7, vs 9 = x9 at *
        subst r1 r3 r5 r7 r9
        go_simp
        refine (gCircleSide hI hw (by first | assumption | (unfold S; decide)) (by first | assumption | (unfold S; decide)) (by first | assumption | (unfold S; decide)) (by first | assumption | (unfold S; decide)) (by first | assumption | (unfold S; decide)) (by first | assumption | (unfold S; decide)) (by first | assumption | (unfold S; decide)) (by first | assumption | (unfold S; decide))).mono ?_
        rintro e w3 ⟨v3, rfl, hv, hb⟩
        exact hK _ _ _ (hI.call hb) (Step.call hI hb) hv
      · intro vs g w2 hI hF hR K hK
        simp only [Facts, fill, Act.put, z1, z2, z3, z4, z5, Nat.reduceAdd] at hF hR hK ⊢
        obtain ⟨r1, r10, -⟩ := hR
        generalize vs 1 = x1, vs 10 = x10 at *
        subst r1
        obtain ⟨s11, rfl, hs11⟩ := r10
        have hz := sign_is (x := (lc xa ya xb yb xc yc xd yd) * (det xa ya xb yb xc yc)) (k := 0) ⟨s11, rfl, hs11⟩ (by rw [Int.sign_eq_zero_iff_zero]; (rw [HDET.out, Int.mul_zero]))
        clear hs11
        go_simp
        exact hK _ _ _ hI (Step.refl hI) rfl
      · intro vs g w2 hI hF hR K hK
        simp only [Facts, fill, Act.put, z1, z2, z3, z4, z5, Nat.reduceAdd] at hF hR hK ⊢
        obtain ⟨r1, r11, -⟩ := hR
        generalize vs 1 = x1, vs 11 = x11 at *
        subst r1 r11
        go_simp
        exact hK _ _ _ hI (Step.refl hI) rfl
      · intro vs g w2 hI hF hR K hK
        simp only [Facts, fill, Act.put, z1, z2, z3, z4, z5, Nat.reduceAdd] at hF hR hK ⊢
        obtain ⟨r12, -⟩ := hR
        generalize vs 12 = x12 at *
        subst r12
        go_simp
        exact hK _ _ _ hI (Step.refl hI) rfl
    case fin =>
      intro vs g wR2 hI hR
      have r13 := hR 13 (by decide)
      simp only [fill, Act.put, z1, z2, z3, z4, z5] at r13 ⊢
      clear hR
      generalize vs 13 = x13 at *
      have Cp_R2_0 := Lib.hid (hI.cell Cp_R1_0.out (fun _ h => by cases h))
      have Cp_R2_1 := Lib.hid (hI.cell Cp_R1_1.out (fun _ h => by cases h))
      have Cp_R2_2 := Lib.hid (hI.cell Cp_R1_2.out (fun _ h => by cases h))
      have Cp_R2_3 := Lib.hid (hI.cell Cp_R1_3.out (fun _ h => by cases h))
      have Cp_R2_4 := Lib.hid (hI.cell Cp_R1_4.out (fun _ h => by cases h))
      have Cp_R2_5 := Lib.hid (hI.cell Cp_R1_5.out (fun _ h => by cases h))
      have Cp_R2_6 := Lib.hid (hI.cell Cp_R1_6.out (fun _ h => by cases h))
      have Cp_R2_7 := Lib.hid (hI.cell Cp_R1_7.out (fun _ h => by cases h))
      subst r13
      have hBR2 := hI.below
      have HCR2 := hI.next HCR1
      clear hI
      go_wp2
      go_ret
      exact ⟨rfl, hBR2⟩
def OnRel (w : World) (xa ya xb yb xc yc xd yd : Int) (i : Value) (wr : World) : Prop :=
  ∃ k : Nat, i = .int .i64 k ∧ k ≤ 3 ∧ Below w.heap.size w wr ∧ (wr.cell? ⟨w.heap.size, 0, none⟩ = some (.int .i64 xa) ∧ wr.cell? ⟨w.heap.size, 1, none⟩ = some (.int .i64 ya) ∧ wr.cell? ⟨w.heap.size, 2, none⟩ = some (.int .i64 xb) ∧ wr.cell? ⟨w.heap.size, 3, none⟩ = some (.int .i64 yb) ∧ wr.cell? ⟨w.heap.size, 4, none⟩ = some (.int .i64 xc) ∧ wr.cell? ⟨w.heap.size, 5, none⟩ = some (.int .i64 yc) ∧ wr.cell? ⟨w.heap.size, 6, none⟩ = some (.int .i64 xd) ∧ wr.cell? ⟨w.heap.size, 7, none⟩ = some (.int .i64 yd))
theorem sign_isnt {x s : Int} (h : ∃ s', Value.int .i64 s = .int .i64 s' ∧ s' = x.sign) (hx : x ≠ 0) : (s == 0) = false := by
  obtain ⟨s', e, rfl⟩ := h
  injection e with _ e
  subst e
  rw [beq_eq_false_iff_ne, ne_eq, Int.sign_eq_zero_iff_zero]; exact hx
set_option maxRecDepth 100000 in
set_option maxHeartbeats 4000000 in
theorem law7I_N (xa ya xb yb xc yc xd yd : Int) (w : World) (hw : Wts w) (sxa : S xa) (sya : S ya) (sxb : S xb) (syb : S yb) (sxc : S xc) (syc : S yc) (sxd : S xd) (syd : S yd) (hdet : det xa ya xb yb xc yc ≠ 0) :
    Calls Tryd.prog 8 #[.agg #[.int .i64 xa, .int .i64 ya, .int .i64 xb, .int .i64 yb, .int .i64 xc, .int .i64 yc, .int .i64 xd, .int .i64 yd]] w fun e w' => e = .returned (.bool true) ∧ Below w.heap.size w w' := by
  have HDET := Lib.hid hdet
  clear hdet
  obtain ⟨W, hW⟩ : ∃ W, W = w.alloc (.cells #[.int .i64 xa, .int .i64 ya, .int .i64 xb, .int .i64 yb, .int .i64 xc, .int .i64 yc, .int .i64 xd, .int .i64 yd] 24) := ⟨_, rfl⟩
  have hb0 : Below w.heap.size w W := by rw [hW]; exact ((Below.refl _ _).alloc (Nat.le_refl _) _)
  have Cp_W_0 := Lib.hid (show W.cell? ⟨w.heap.size, 0, none⟩ = some (.int .i64 xa) by rw [hW]; simp [go_sem])
  have Cp_W_1 := Lib.hid (show W.cell? ⟨w.heap.size, 1, none⟩ = some (.int .i64 ya) by rw [hW]; simp [go_sem])
  have Cp_W_2 := Lib.hid (show W.cell? ⟨w.heap.size, 2, none⟩ = some (.int .i64 xb) by rw [hW]; simp [go_sem])
  have Cp_W_3 := Lib.hid (show W.cell? ⟨w.heap.size, 3, none⟩ = some (.int .i64 yb) by rw [hW]; simp [go_sem])
  have Cp_W_4 := Lib.hid (show W.cell? ⟨w.heap.size, 4, none⟩ = some (.int .i64 xc) by rw [hW]; simp [go_sem])
  have Cp_W_5 := Lib.hid (show W.cell? ⟨w.heap.size, 5, none⟩ = some (.int .i64 yc) by rw [hW]; simp [go_sem])
  have Cp_W_6 := Lib.hid (show W.cell? ⟨w.heap.size, 6, none⟩ = some (.int .i64 xd) by rw [hW]; simp [go_sem])
  have Cp_W_7 := Lib.hid (show W.cell? ⟨w.heap.size, 7, none⟩ = some (.int .i64 yd) by rw [hW]; simp [go_sem])
  have HW := Lib.hid hW
  clear hW
  go_enter Tryd.func8, Tryd.ntmps8
  go_upto_region 1 with (fail)
  rw [← HW.out]
  refine box_plan0 (c := ⟨w, W, (fun _ => none)⟩) (Ctx.ok_none hb0) [[], [(4, 0)], [], [(6, 2)], [], [(8, 4)], [(5, 1), (7, 3), (9, 5)], [(10, 6)]] [(4, 0), (5, 1), (6, 2), (7, 3), (8, 4), (9, 5), (10, 6), (11, 7)] [
      (fun v _ _ => v = .pointer (some ⟨w.heap.size, 0, none⟩)),
      (fun v _ _ => v = .agg #[.int .i64 xa, .int .i64 ya]),
      (fun v _ _ => v = .pointer (some ⟨w.heap.size, 2, none⟩)),
      (fun v _ _ => v = .agg #[.int .i64 xb, .int .i64 yb]),
      (fun v _ _ => v = .pointer (some ⟨w.heap.size, 4, none⟩)),
      (fun v _ _ => v = .agg #[.int .i64 xc, .int .i64 yc]),
      SignR (det xa ya xb yb xc yc),
      (fun v _ _ => v = .bool false)
    ] (fun _ => none) (by kernel_rfl) (by kernel_rfl) ⟨stab_eq, stab_eq, stab_eq, stab_eq, stab_eq, stab_eq, stab_firm (signR_firm _), stab_eq, trivial⟩ ?steps ?fin
  case steps =>
    refine ⟨?_, ?_, ?_, ?_, ?_, ?_, ?_, ?_, trivial⟩
    · intro vs g w2 hI hF hR K hK
      simp only [Facts, fill, Act.put, z1, z2, z3, z4, z5, Nat.reduceAdd] at hF hR hK ⊢
      go_simp
      exact hK _ _ _ hI (Step.refl hI) rfl
    · intro vs g w2 hI hF hR K hK
      simp only [Facts, fill, Act.put, z1, z2, z3, z4, z5, Nat.reduceAdd] at hF hR hK ⊢
      obtain ⟨r0, -⟩ := hR
      generalize vs 0 = x0 at *
      subst r0
      have k0 := hI.cell Cp_W_0.out (fun _ h => by cases h)
      have k1 := hI.cell Cp_W_1.out (fun _ h => by cases h)
      go_simp
      exact hK _ _ _ hI (Step.refl hI) rfl
    · intro vs g w2 hI hF hR K hK
      simp only [Facts, fill, Act.put, z1, z2, z3, z4, z5, Nat.reduceAdd] at hF hR hK ⊢
      go_simp
      exact hK _ _ _ hI (Step.refl hI) rfl
    · intro vs g w2 hI hF hR K hK
      simp only [Facts, fill, Act.put, z1, z2, z3, z4, z5, Nat.reduceAdd] at hF hR hK ⊢
      obtain ⟨r2, -⟩ := hR
      generalize vs 2 = x2 at *
      subst r2
      have k0 := hI.cell Cp_W_2.out (fun _ h => by cases h)
      have k1 := hI.cell Cp_W_3.out (fun _ h => by cases h)
      go_simp
      exact hK _ _ _ hI (Step.refl hI) rfl
    · intro vs g w2 hI hF hR K hK
      simp only [Facts, fill, Act.put, z1, z2, z3, z4, z5, Nat.reduceAdd] at hF hR hK ⊢
      go_simp
      exact hK _ _ _ hI (Step.refl hI) rfl
    · intro vs g w2 hI hF hR K hK
      simp only [Facts, fill, Act.put, z1, z2, z3, z4, z5, Nat.reduceAdd] at hF hR hK ⊢
      obtain ⟨r4, -⟩ := hR
      generalize vs 4 = x4 at *
      subst r4
      have k0 := hI.cell Cp_W_4.out (fun _ h => by cases h)
      have k1 := hI.cell Cp_W_5.out (fun _ h => by cases h)
      go_simp
      exact hK _ _ _ hI (Step.refl hI) rfl
    · intro vs g w2 hI hF hR K hK
      simp only [Facts, fill, Act.put, z1, z2, z3, z4, z5, Nat.reduceAdd] at hF hR hK ⊢
      obtain ⟨r1, r3, r5, -⟩ := hR
      generalize vs 1 = x1, vs 3 = x3, vs 5 = x5 at *
      subst r1 r3 r5
      go_simp
      refine (gRef6Sign hI (by first | assumption | (unfold S; decide)) (by first | assumption | (unfold S; decide)) (by first | assumption | (unfold S; decide)) (by first | assumption | (unfold S; decide)) (by first | assumption | (unfold S; decide)) (by first | assumption | (unfold S; decide))).mono ?_
      rintro e w3 ⟨v3, rfl, hv, hb⟩
      exact hK _ _ _ (hI.call hb) (Step.call hI hb) hv
    · intro vs g w2 hI hF hR K hK
      simp only [Facts, fill, Act.put, z1, z2, z3, z4, z5, Nat.reduceAdd] at hF hR hK ⊢
      obtain ⟨r6, -⟩ := hR
      generalize vs 6 = x6 at *
      obtain ⟨sq, rfl, hsq⟩ := r6
      have hz := sign_isnt (x := det xa ya xb yb xc yc) ⟨sq, rfl, hsq⟩ HDET.out
      clear hsq
      go_simp
      exact hK _ _ _ hI (Step.refl hI) rfl
  case fin =>
    intro vs g wR1 hI hR
    have r7 := hR 7 (by decide)
    simp only [fill, Act.put, z1, z2, z3, z4, z5] at r7 ⊢
    clear hR
    generalize vs 7 = x7 at *
    have Cp_R1_0 := Lib.hid (hI.cell Cp_W_0.out (fun _ h => by cases h))
    have Cp_R1_1 := Lib.hid (hI.cell Cp_W_1.out (fun _ h => by cases h))
    have Cp_R1_2 := Lib.hid (hI.cell Cp_W_2.out (fun _ h => by cases h))
    have Cp_R1_3 := Lib.hid (hI.cell Cp_W_3.out (fun _ h => by cases h))
    have Cp_R1_4 := Lib.hid (hI.cell Cp_W_4.out (fun _ h => by cases h))
    have Cp_R1_5 := Lib.hid (hI.cell Cp_W_5.out (fun _ h => by cases h))
    have Cp_R1_6 := Lib.hid (hI.cell Cp_W_6.out (fun _ h => by cases h))
    have Cp_R1_7 := Lib.hid (hI.cell Cp_W_7.out (fun _ h => by cases h))
    subst r7
    have hBR1 := hI.below
    have HCR1 := hI.next (Ctx.ok_none hb0)
    clear hI
    go_wp2
    go_loopw [25] (fun i wr => OnRel w xa ya xb yb xc yc xd yd i wr) (fun i _ => 3 - (intOf i).toNat)
    case atStart => exact ⟨0, rfl, by omega, hBR1, Cp_R1_0.out, Cp_R1_1.out, Cp_R1_2.out, Cp_R1_3.out, Cp_R1_4.out, Cp_R1_5.out, Cp_R1_6.out, Cp_R1_7.out⟩
    case round =>
      clear Cp_R1_0 Cp_R1_1 Cp_R1_2 Cp_R1_3 Cp_R1_4 Cp_R1_5 Cp_R1_6 Cp_R1_7 hBR1 HCR1
      obtain ⟨k, rfl, hk, hb0, c0, c1, c2, c3, c4, c5, c6, c7⟩ := hrel
      have Cp_W_0 := Lib.hid c0
      have Cp_W_1 := Lib.hid c1
      have Cp_W_2 := Lib.hid c2
      have Cp_W_3 := Lib.hid c3
      have Cp_W_4 := Lib.hid c4
      have Cp_W_5 := Lib.hid c5
      have Cp_W_6 := Lib.hid c6
      have Cp_W_7 := Lib.hid c7
      clear c0 c1 c2 c3 c4 c5 c6 c7
      have hks : k = 0 ∨ k = 1 ∨ k = 2 ∨ k = 3 := by omega
      rcases hks with rfl | rfl | rfl | rfl
      · go_upto_region 6 with (fail)
        refine box_plan (c := ⟨w, wr, (fun _ => none)⟩) (Ctx.ok_none hb0) (by kernel_rfl) [[], [(28, 0)], [], [(30, 2)], [], [(32, 4)], [], [(34, 6)], [(35, 7)], [(29, 1), (31, 3), (33, 5), (36, 8)], [(37, 9)]] [(28, 0), (29, 1), (30, 2), (31, 3), (32, 4), (33, 5), (34, 6), (35, 7), (36, 8), (37, 9), (38, 10)] [
            (fun v _ _ => v = .pointer (some ⟨w.heap.size, 0, none⟩)),
            (fun v _ _ => v = .agg #[.int .i64 xa, .int .i64 ya]),
            (fun v _ _ => v = .pointer (some ⟨w.heap.size, 2, none⟩)),
            (fun v _ _ => v = .agg #[.int .i64 xb, .int .i64 yb]),
            (fun v _ _ => v = .pointer (some ⟨w.heap.size, 4, none⟩)),
            (fun v _ _ => v = .agg #[.int .i64 xc, .int .i64 yc]),
            (fun v _ _ => v = .int .i64 0),
            (fun v _ _ => v = .pointer (some ⟨w.heap.size, 0, none⟩)),
            (fun v _ _ => v = .agg #[.int .i64 xa, .int .i64 ya]),
            SignR ((lc xa ya xb yb xc yc xa ya) * (det xa ya xb yb xc yc)),
            (fun v _ _ => v = .bool false)
          ] (fun _ => none) (by kernel_rfl) (by kernel_rfl) ⟨stab_eq, stab_eq, stab_eq, stab_eq, stab_eq, stab_eq, stab_eq, stab_eq, stab_eq, stab_firm (signR_firm _), stab_eq, trivial⟩ ?steps ?fin
        case steps =>
          refine ⟨?_, ?_, ?_, ?_, ?_, ?_, ?_, ?_, ?_, ?_, ?_, trivial⟩
          · intro vs g w2 hI hF hR K hK
            simp only [Facts, fill, Act.put, z1, z2, z3, z4, z5, Nat.reduceAdd] at hF hR hK ⊢
            go_simp
            exact hK _ _ _ hI (Step.refl hI) rfl
          · intro vs g w2 hI hF hR K hK
            simp only [Facts, fill, Act.put, z1, z2, z3, z4, z5, Nat.reduceAdd] at hF hR hK ⊢
            obtain ⟨r0, -⟩ := hR
            generalize vs 0 = x0 at *
            subst r0
            have k0 := hI.cell Cp_W_0.out (fun _ h => by cases h)
            have k1 := hI.cell Cp_W_1.out (fun _ h => by cases h)
            go_simp
            exact hK _ _ _ hI (Step.refl hI) rfl
          · intro vs g w2 hI hF hR K hK
            simp only [Facts, fill, Act.put, z1, z2, z3, z4, z5, Nat.reduceAdd] at hF hR hK ⊢
            go_simp
            exact hK _ _ _ hI (Step.refl hI) rfl
          · intro vs g w2 hI hF hR K hK
            simp only [Facts, fill, Act.put, z1, z2, z3, z4, z5, Nat.reduceAdd] at hF hR hK ⊢
            obtain ⟨r2, -⟩ := hR
            generalize vs 2 = x2 at *
            subst r2
            have k0 := hI.cell Cp_W_2.out (fun _ h => by cases h)
            have k1 := hI.cell Cp_W_3.out (fun _ h => by cases h)
            go_simp
            exact hK _ _ _ hI (Step.refl hI) rfl
          · intro vs g w2 hI hF hR K hK
            simp only [Facts, fill, Act.put, z1, z2, z3, z4, z5, Nat.reduceAdd] at hF hR hK ⊢
            go_simp
            exact hK _ _ _ hI (Step.refl hI) rfl
          · intro vs g w2 hI hF hR K hK
            simp only [Facts, fill, Act.put, z1, z2, z3, z4, z5, Nat.reduceAdd] at hF hR hK ⊢
            obtain ⟨r4, -⟩ := hR
            generalize vs 4 = x4 at *
            subst r4
            have k0 := hI.cell Cp_W_4.out (fun _ h => by cases h)
            have k1 := hI.cell Cp_W_5.out (fun _ h => by cases h)
            go_simp
            exact hK _ _ _ hI (Step.refl hI) rfl
          · intro vs g w2 hI hF hR K hK
            simp only [Facts, fill, Act.put, z1, z2, z3, z4, z5, Nat.reduceAdd] at hF hR hK ⊢
            go_simp
            exact hK _ _ _ hI (Step.refl hI) rfl
          · intro vs g w2 hI hF hR K hK
            simp only [Facts, fill, Act.put, z1, z2, z3, z4, z5, Nat.reduceAdd] at hF hR hK ⊢
            obtain ⟨r6, -⟩ := hR
            generalize vs 6 = x6 at *
            subst r6
            go_simp
            exact hK _ _ _ hI (Step.refl hI) rfl
          · intro vs g w2 hI hF hR K hK
            simp only [Facts, fill, Act.put, z1, z2, z3, z4, z5, Nat.reduceAdd] at hF hR hK ⊢
            obtain ⟨r7, -⟩ := hR
            generalize vs 7 = x7 at *
            subst r7
            have k0 := hI.cell Cp_W_0.out (fun _ h => by cases h)
            have k1 := hI.cell Cp_W_1.out (fun _ h => by cases h)
            go_simp
            exact hK _ _ _ hI (Step.refl hI) rfl
          · intro vs g w2 hI hF hR K hK
            simp only [Facts, fill, Act.put, z1, z2, z3, z4, z5, Nat.reduceAdd] at hF hR hK ⊢
            obtain ⟨r1, r3, r5, r8, -⟩ := hR
            generalize vs 1 = x1, vs 3 = x3, vs 5 = x5, vs 8 = x8 at *
            subst r1 r3 r5 r8
            go_simp
            refine (gCircleSide hI hw (by first | assumption | (unfold S; decide)) (by first | assumption | (unfold S; decide)) (by first | assumption | (unfold S; decide)) (by first | assumption | (unfold S; decide)) (by first | assumption | (unfold S; decide)) (by first | assumption | (unfold S; decide)) (by first | assumption | (unfold S; decide)) (by first | assumption | (unfold S; decide))).mono ?_
            rintro e w3 ⟨v3, rfl, hv, hb⟩
            exact hK _ _ _ (hI.call hb) (Step.call hI hb) hv
          · intro vs g w2 hI hF hR K hK
            simp only [Facts, fill, Act.put, z1, z2, z3, z4, z5, Nat.reduceAdd] at hF hR hK ⊢
            obtain ⟨r9, -⟩ := hR
            generalize vs 9 = x9 at *
            obtain ⟨sq, rfl, hsq⟩ := r9
            have hz := sign_is (x := lc xa ya xb yb xc yc xa ya * (det xa ya xb yb xc yc)) (k := 0) ⟨sq, rfl, hsq⟩ (by rw [lc_same1, Int.zero_mul]; rfl)
            clear hsq
            have hz2 : (sq != 0) = false := by rw [bne, hz]; rfl
            go_simp
            exact hK _ _ _ hI (Step.refl hI) rfl
        case fin =>
          intro vs g wR6 hI hR
          have r10 := hR 10 (by decide)
          simp only [fill, Act.put, z1, z2, z3, z4, z5] at r10 ⊢
          clear hR
          generalize vs 10 = x10 at *
          have Cp_R6_0 := Lib.hid (hI.cell Cp_W_0.out (fun _ h => by cases h))
          have Cp_R6_1 := Lib.hid (hI.cell Cp_W_1.out (fun _ h => by cases h))
          have Cp_R6_2 := Lib.hid (hI.cell Cp_W_2.out (fun _ h => by cases h))
          have Cp_R6_3 := Lib.hid (hI.cell Cp_W_3.out (fun _ h => by cases h))
          have Cp_R6_4 := Lib.hid (hI.cell Cp_W_4.out (fun _ h => by cases h))
          have Cp_R6_5 := Lib.hid (hI.cell Cp_W_5.out (fun _ h => by cases h))
          have Cp_R6_6 := Lib.hid (hI.cell Cp_W_6.out (fun _ h => by cases h))
          have Cp_R6_7 := Lib.hid (hI.cell Cp_W_7.out (fun _ h => by cases h))
          subst r10
          have hBR6 := hI.below
          have HCR6 := hI.next (Ctx.ok_none hb0)
          clear hI
          go_wp2
          go_roundw
          case rel => exact ⟨1, rfl, by omega, hBR6, Cp_R6_0.out, Cp_R6_1.out, Cp_R6_2.out, Cp_R6_3.out, Cp_R6_4.out, Cp_R6_5.out, Cp_R6_6.out, Cp_R6_7.out⟩
          case measure => simp [intOf]
      · go_upto_region 6 with (fail)
        refine box_plan (c := ⟨w, wr, (fun _ => none)⟩) (Ctx.ok_none hb0) (by kernel_rfl) [[], [(28, 0)], [], [(30, 2)], [], [(32, 4)], [], [(34, 6)], [(35, 7)], [(29, 1), (31, 3), (33, 5), (36, 8)], [(37, 9)]] [(28, 0), (29, 1), (30, 2), (31, 3), (32, 4), (33, 5), (34, 6), (35, 7), (36, 8), (37, 9), (38, 10)] [
            (fun v _ _ => v = .pointer (some ⟨w.heap.size, 0, none⟩)),
            (fun v _ _ => v = .agg #[.int .i64 xa, .int .i64 ya]),
            (fun v _ _ => v = .pointer (some ⟨w.heap.size, 2, none⟩)),
            (fun v _ _ => v = .agg #[.int .i64 xb, .int .i64 yb]),
            (fun v _ _ => v = .pointer (some ⟨w.heap.size, 4, none⟩)),
            (fun v _ _ => v = .agg #[.int .i64 xc, .int .i64 yc]),
            (fun v _ _ => v = .int .i64 1),
            (fun v _ _ => v = .pointer (some ⟨w.heap.size, 2, none⟩)),
            (fun v _ _ => v = .agg #[.int .i64 xb, .int .i64 yb]),
            SignR ((lc xa ya xb yb xc yc xb yb) * (det xa ya xb yb xc yc)),
            (fun v _ _ => v = .bool false)
          ] (fun _ => none) (by kernel_rfl) (by kernel_rfl) ⟨stab_eq, stab_eq, stab_eq, stab_eq, stab_eq, stab_eq, stab_eq, stab_eq, stab_eq, stab_firm (signR_firm _), stab_eq, trivial⟩ ?steps ?fin
        case steps =>
          refine ⟨?_, ?_, ?_, ?_, ?_, ?_, ?_, ?_, ?_, ?_, ?_, trivial⟩
          · intro vs g w2 hI hF hR K hK
            simp only [Facts, fill, Act.put, z1, z2, z3, z4, z5, Nat.reduceAdd] at hF hR hK ⊢
            go_simp
            exact hK _ _ _ hI (Step.refl hI) rfl
          · intro vs g w2 hI hF hR K hK
            simp only [Facts, fill, Act.put, z1, z2, z3, z4, z5, Nat.reduceAdd] at hF hR hK ⊢
            obtain ⟨r0, -⟩ := hR
            generalize vs 0 = x0 at *
            subst r0
            have k0 := hI.cell Cp_W_0.out (fun _ h => by cases h)
            have k1 := hI.cell Cp_W_1.out (fun _ h => by cases h)
            go_simp
            exact hK _ _ _ hI (Step.refl hI) rfl
          · intro vs g w2 hI hF hR K hK
            simp only [Facts, fill, Act.put, z1, z2, z3, z4, z5, Nat.reduceAdd] at hF hR hK ⊢
            go_simp
            exact hK _ _ _ hI (Step.refl hI) rfl
          · intro vs g w2 hI hF hR K hK
            simp only [Facts, fill, Act.put, z1, z2, z3, z4, z5, Nat.reduceAdd] at hF hR hK ⊢
            obtain ⟨r2, -⟩ := hR
            generalize vs 2 = x2 at *
            subst r2
            have k0 := hI.cell Cp_W_2.out (fun _ h => by cases h)
            have k1 := hI.cell Cp_W_3.out (fun _ h => by cases h)
            go_simp
            exact hK _ _ _ hI (Step.refl hI) rfl
          · intro vs g w2 hI hF hR K hK
            simp only [Facts, fill, Act.put, z1, z2, z3, z4, z5, Nat.reduceAdd] at hF hR hK ⊢
            go_simp
            exact hK _ _ _ hI (Step.refl hI) rfl
          · intro vs g w2 hI hF hR K hK
            simp only [Facts, fill, Act.put, z1, z2, z3, z4, z5, Nat.reduceAdd] at hF hR hK ⊢
            obtain ⟨r4, -⟩ := hR
            generalize vs 4 = x4 at *
            subst r4
            have k0 := hI.cell Cp_W_4.out (fun _ h => by cases h)
            have k1 := hI.cell Cp_W_5.out (fun _ h => by cases h)
            go_simp
            exact hK _ _ _ hI (Step.refl hI) rfl
          · intro vs g w2 hI hF hR K hK
            simp only [Facts, fill, Act.put, z1, z2, z3, z4, z5, Nat.reduceAdd] at hF hR hK ⊢
            go_simp
            exact hK _ _ _ hI (Step.refl hI) rfl
          · intro vs g w2 hI hF hR K hK
            simp only [Facts, fill, Act.put, z1, z2, z3, z4, z5, Nat.reduceAdd] at hF hR hK ⊢
            obtain ⟨r6, -⟩ := hR
            generalize vs 6 = x6 at *
            subst r6
            go_simp
            exact hK _ _ _ hI (Step.refl hI) rfl
          · intro vs g w2 hI hF hR K hK
            simp only [Facts, fill, Act.put, z1, z2, z3, z4, z5, Nat.reduceAdd] at hF hR hK ⊢
            obtain ⟨r7, -⟩ := hR
            generalize vs 7 = x7 at *
            subst r7
            have k0 := hI.cell Cp_W_2.out (fun _ h => by cases h)
            have k1 := hI.cell Cp_W_3.out (fun _ h => by cases h)
            go_simp
            exact hK _ _ _ hI (Step.refl hI) rfl
          · intro vs g w2 hI hF hR K hK
            simp only [Facts, fill, Act.put, z1, z2, z3, z4, z5, Nat.reduceAdd] at hF hR hK ⊢
            obtain ⟨r1, r3, r5, r8, -⟩ := hR
            generalize vs 1 = x1, vs 3 = x3, vs 5 = x5, vs 8 = x8 at *
            subst r1 r3 r5 r8
            go_simp
            refine (gCircleSide hI hw (by first | assumption | (unfold S; decide)) (by first | assumption | (unfold S; decide)) (by first | assumption | (unfold S; decide)) (by first | assumption | (unfold S; decide)) (by first | assumption | (unfold S; decide)) (by first | assumption | (unfold S; decide)) (by first | assumption | (unfold S; decide)) (by first | assumption | (unfold S; decide))).mono ?_
            rintro e w3 ⟨v3, rfl, hv, hb⟩
            exact hK _ _ _ (hI.call hb) (Step.call hI hb) hv
          · intro vs g w2 hI hF hR K hK
            simp only [Facts, fill, Act.put, z1, z2, z3, z4, z5, Nat.reduceAdd] at hF hR hK ⊢
            obtain ⟨r9, -⟩ := hR
            generalize vs 9 = x9 at *
            obtain ⟨sq, rfl, hsq⟩ := r9
            have hz := sign_is (x := lc xa ya xb yb xc yc xb yb * (det xa ya xb yb xc yc)) (k := 0) ⟨sq, rfl, hsq⟩ (by rw [lc_same2, Int.zero_mul]; rfl)
            clear hsq
            have hz2 : (sq != 0) = false := by rw [bne, hz]; rfl
            go_simp
            exact hK _ _ _ hI (Step.refl hI) rfl
        case fin =>
          intro vs g wR6 hI hR
          have r10 := hR 10 (by decide)
          simp only [fill, Act.put, z1, z2, z3, z4, z5] at r10 ⊢
          clear hR
          generalize vs 10 = x10 at *
          have Cp_R6_0 := Lib.hid (hI.cell Cp_W_0.out (fun _ h => by cases h))
          have Cp_R6_1 := Lib.hid (hI.cell Cp_W_1.out (fun _ h => by cases h))
          have Cp_R6_2 := Lib.hid (hI.cell Cp_W_2.out (fun _ h => by cases h))
          have Cp_R6_3 := Lib.hid (hI.cell Cp_W_3.out (fun _ h => by cases h))
          have Cp_R6_4 := Lib.hid (hI.cell Cp_W_4.out (fun _ h => by cases h))
          have Cp_R6_5 := Lib.hid (hI.cell Cp_W_5.out (fun _ h => by cases h))
          have Cp_R6_6 := Lib.hid (hI.cell Cp_W_6.out (fun _ h => by cases h))
          have Cp_R6_7 := Lib.hid (hI.cell Cp_W_7.out (fun _ h => by cases h))
          subst r10
          have hBR6 := hI.below
          have HCR6 := hI.next (Ctx.ok_none hb0)
          clear hI
          go_wp2
          go_roundw
          case rel => exact ⟨2, rfl, by omega, hBR6, Cp_R6_0.out, Cp_R6_1.out, Cp_R6_2.out, Cp_R6_3.out, Cp_R6_4.out, Cp_R6_5.out, Cp_R6_6.out, Cp_R6_7.out⟩
          case measure => simp [intOf]
      · go_upto_region 6 with (fail)
        refine box_plan (c := ⟨w, wr, (fun _ => none)⟩) (Ctx.ok_none hb0) (by kernel_rfl) [[], [(28, 0)], [], [(30, 2)], [], [(32, 4)], [], [(34, 6)], [(35, 7)], [(29, 1), (31, 3), (33, 5), (36, 8)], [(37, 9)]] [(28, 0), (29, 1), (30, 2), (31, 3), (32, 4), (33, 5), (34, 6), (35, 7), (36, 8), (37, 9), (38, 10)] [
            (fun v _ _ => v = .pointer (some ⟨w.heap.size, 0, none⟩)),
            (fun v _ _ => v = .agg #[.int .i64 xa, .int .i64 ya]),
            (fun v _ _ => v = .pointer (some ⟨w.heap.size, 2, none⟩)),
            (fun v _ _ => v = .agg #[.int .i64 xb, .int .i64 yb]),
            (fun v _ _ => v = .pointer (some ⟨w.heap.size, 4, none⟩)),
            (fun v _ _ => v = .agg #[.int .i64 xc, .int .i64 yc]),
            (fun v _ _ => v = .int .i64 2),
            (fun v _ _ => v = .pointer (some ⟨w.heap.size, 4, none⟩)),
            (fun v _ _ => v = .agg #[.int .i64 xc, .int .i64 yc]),
            SignR ((lc xa ya xb yb xc yc xc yc) * (det xa ya xb yb xc yc)),
            (fun v _ _ => v = .bool false)
          ] (fun _ => none) (by kernel_rfl) (by kernel_rfl) ⟨stab_eq, stab_eq, stab_eq, stab_eq, stab_eq, stab_eq, stab_eq, stab_eq, stab_eq, stab_firm (signR_firm _), stab_eq, trivial⟩ ?steps ?fin
        case steps =>
          refine ⟨?_, ?_, ?_, ?_, ?_, ?_, ?_, ?_, ?_, ?_, ?_, trivial⟩
          · intro vs g w2 hI hF hR K hK
            simp only [Facts, fill, Act.put, z1, z2, z3, z4, z5, Nat.reduceAdd] at hF hR hK ⊢
            go_simp
            exact hK _ _ _ hI (Step.refl hI) rfl
          · intro vs g w2 hI hF hR K hK
            simp only [Facts, fill, Act.put, z1, z2, z3, z4, z5, Nat.reduceAdd] at hF hR hK ⊢
            obtain ⟨r0, -⟩ := hR
            generalize vs 0 = x0 at *
            subst r0
            have k0 := hI.cell Cp_W_0.out (fun _ h => by cases h)
            have k1 := hI.cell Cp_W_1.out (fun _ h => by cases h)
            go_simp
            exact hK _ _ _ hI (Step.refl hI) rfl
          · intro vs g w2 hI hF hR K hK
            simp only [Facts, fill, Act.put, z1, z2, z3, z4, z5, Nat.reduceAdd] at hF hR hK ⊢
            go_simp
            exact hK _ _ _ hI (Step.refl hI) rfl
          · intro vs g w2 hI hF hR K hK
            simp only [Facts, fill, Act.put, z1, z2, z3, z4, z5, Nat.reduceAdd] at hF hR hK ⊢
            obtain ⟨r2, -⟩ := hR
            generalize vs 2 = x2 at *
            subst r2
            have k0 := hI.cell Cp_W_2.out (fun _ h => by cases h)
            have k1 := hI.cell Cp_W_3.out (fun _ h => by cases h)
            go_simp
            exact hK _ _ _ hI (Step.refl hI) rfl
          · intro vs g w2 hI hF hR K hK
            simp only [Facts, fill, Act.put, z1, z2, z3, z4, z5, Nat.reduceAdd] at hF hR hK ⊢
            go_simp
            exact hK _ _ _ hI (Step.refl hI) rfl
          · intro vs g w2 hI hF hR K hK
            simp only [Facts, fill, Act.put, z1, z2, z3, z4, z5, Nat.reduceAdd] at hF hR hK ⊢
            obtain ⟨r4, -⟩ := hR
            generalize vs 4 = x4 at *
            subst r4
            have k0 := hI.cell Cp_W_4.out (fun _ h => by cases h)
            have k1 := hI.cell Cp_W_5.out (fun _ h => by cases h)
            go_simp
            exact hK _ _ _ hI (Step.refl hI) rfl
          · intro vs g w2 hI hF hR K hK
            simp only [Facts, fill, Act.put, z1, z2, z3, z4, z5, Nat.reduceAdd] at hF hR hK ⊢
            go_simp
            exact hK _ _ _ hI (Step.refl hI) rfl
          · intro vs g w2 hI hF hR K hK
            simp only [Facts, fill, Act.put, z1, z2, z3, z4, z5, Nat.reduceAdd] at hF hR hK ⊢
            obtain ⟨r6, -⟩ := hR
            generalize vs 6 = x6 at *
            subst r6
            go_simp
            exact hK _ _ _ hI (Step.refl hI) rfl
          · intro vs g w2 hI hF hR K hK
            simp only [Facts, fill, Act.put, z1, z2, z3, z4, z5, Nat.reduceAdd] at hF hR hK ⊢
            obtain ⟨r7, -⟩ := hR
            generalize vs 7 = x7 at *
            subst r7
            have k0 := hI.cell Cp_W_4.out (fun _ h => by cases h)
            have k1 := hI.cell Cp_W_5.out (fun _ h => by cases h)
            go_simp
            exact hK _ _ _ hI (Step.refl hI) rfl
          · intro vs g w2 hI hF hR K hK
            simp only [Facts, fill, Act.put, z1, z2, z3, z4, z5, Nat.reduceAdd] at hF hR hK ⊢
            obtain ⟨r1, r3, r5, r8, -⟩ := hR
            generalize vs 1 = x1, vs 3 = x3, vs 5 = x5, vs 8 = x8 at *
            subst r1 r3 r5 r8
            go_simp
            refine (gCircleSide hI hw (by first | assumption | (unfold S; decide)) (by first | assumption | (unfold S; decide)) (by first | assumption | (unfold S; decide)) (by first | assumption | (unfold S; decide)) (by first | assumption | (unfold S; decide)) (by first | assumption | (unfold S; decide)) (by first | assumption | (unfold S; decide)) (by first | assumption | (unfold S; decide))).mono ?_
            rintro e w3 ⟨v3, rfl, hv, hb⟩
            exact hK _ _ _ (hI.call hb) (Step.call hI hb) hv
          · intro vs g w2 hI hF hR K hK
            simp only [Facts, fill, Act.put, z1, z2, z3, z4, z5, Nat.reduceAdd] at hF hR hK ⊢
            obtain ⟨r9, -⟩ := hR
            generalize vs 9 = x9 at *
            obtain ⟨sq, rfl, hsq⟩ := r9
            have hz := sign_is (x := lc xa ya xb yb xc yc xc yc * (det xa ya xb yb xc yc)) (k := 0) ⟨sq, rfl, hsq⟩ (by rw [lc_same3, Int.zero_mul]; rfl)
            clear hsq
            have hz2 : (sq != 0) = false := by rw [bne, hz]; rfl
            go_simp
            exact hK _ _ _ hI (Step.refl hI) rfl
        case fin =>
          intro vs g wR6 hI hR
          have r10 := hR 10 (by decide)
          simp only [fill, Act.put, z1, z2, z3, z4, z5] at r10 ⊢
          clear hR
          generalize vs 10 = x10 at *
          have Cp_R6_0 := Lib.hid (hI.cell Cp_W_0.out (fun _ h => by cases h))
          have Cp_R6_1 := Lib.hid (hI.cell Cp_W_1.out (fun _ h => by cases h))
          have Cp_R6_2 := Lib.hid (hI.cell Cp_W_2.out (fun _ h => by cases h))
          have Cp_R6_3 := Lib.hid (hI.cell Cp_W_3.out (fun _ h => by cases h))
          have Cp_R6_4 := Lib.hid (hI.cell Cp_W_4.out (fun _ h => by cases h))
          have Cp_R6_5 := Lib.hid (hI.cell Cp_W_5.out (fun _ h => by cases h))
          have Cp_R6_6 := Lib.hid (hI.cell Cp_W_6.out (fun _ h => by cases h))
          have Cp_R6_7 := Lib.hid (hI.cell Cp_W_7.out (fun _ h => by cases h))
          subst r10
          have hBR6 := hI.below
          have HCR6 := hI.next (Ctx.ok_none hb0)
          clear hI
          go_wp2
          go_roundw
          case rel => exact ⟨3, rfl, by omega, hBR6, Cp_R6_0.out, Cp_R6_1.out, Cp_R6_2.out, Cp_R6_3.out, Cp_R6_4.out, Cp_R6_5.out, Cp_R6_6.out, Cp_R6_7.out⟩
          case measure => simp [intOf]
      · go_upto_region 9 with (fail)
        refine box_plan0 (c := ⟨w, wr, (fun _ => none)⟩) (Ctx.ok_none hb0) [[], [(40, 0)]] [(40, 0), (2, 1)] [
            (fun v _ _ => v = .bool true),
            (fun v _ _ => v = .bool true)
          ] (fun _ => none) (by kernel_rfl) (by kernel_rfl) ⟨stab_eq, stab_eq, trivial⟩ ?steps ?fin
        case steps =>
          refine ⟨?_, ?_, trivial⟩
          · intro vs g w2 hI hF hR K hK
            simp only [Facts, fill, Act.put, z1, z2, z3, z4, z5, Nat.reduceAdd] at hF hR hK ⊢
            go_simp
            refine (gAlive7 hI hw).mono ?_
            rintro e w3 ⟨v3, rfl, hv, hb⟩
            exact hK _ _ _ (hI.call hb) (Step.call hI hb) hv
          · intro vs g w2 hI hF hR K hK
            simp only [Facts, fill, Act.put, z1, z2, z3, z4, z5, Nat.reduceAdd] at hF hR hK ⊢
            obtain ⟨r0, -⟩ := hR
            generalize vs 0 = x0 at *
            subst r0
            go_simp
            exact hK _ _ _ hI (Step.refl hI) rfl
        case fin =>
          intro vs g wR9 hI hR
          have r1 := hR 1 (by decide)
          simp only [fill, Act.put, z1, z2, z3, z4, z5] at r1 ⊢
          clear hR
          generalize vs 1 = x1 at *
          have Cp_R9_0 := Lib.hid (hI.cell Cp_W_0.out (fun _ h => by cases h))
          have Cp_R9_1 := Lib.hid (hI.cell Cp_W_1.out (fun _ h => by cases h))
          have Cp_R9_2 := Lib.hid (hI.cell Cp_W_2.out (fun _ h => by cases h))
          have Cp_R9_3 := Lib.hid (hI.cell Cp_W_3.out (fun _ h => by cases h))
          have Cp_R9_4 := Lib.hid (hI.cell Cp_W_4.out (fun _ h => by cases h))
          have Cp_R9_5 := Lib.hid (hI.cell Cp_W_5.out (fun _ h => by cases h))
          have Cp_R9_6 := Lib.hid (hI.cell Cp_W_6.out (fun _ h => by cases h))
          have Cp_R9_7 := Lib.hid (hI.cell Cp_W_7.out (fun _ h => by cases h))
          subst r1
          have hBR9 := hI.below
          have HCR9 := hI.next (Ctx.ok_none hb0)
          clear hI
          go_wp2
          go_ret
          exact ⟨rfl, hBR9⟩
theorem law_circleOnItself (xa ya xb yb xc yc xd yd : Int) (w : World) (hw : Wts w) (sxa : S xa) (sya : S ya) (sxb : S xb) (syb : S yb) (sxc : S xc) (syc : S yc) (sxd : S xd) (syd : S yd) :
    Calls Tryd.prog 8 #[.agg #[.int .i64 xa, .int .i64 ya, .int .i64 xb, .int .i64 yb, .int .i64 xc, .int .i64 yc, .int .i64 xd, .int .i64 yd]] w fun e w' => e = .returned (.bool true) ∧ Below w.heap.size w w' := by
  by_cases h : det xa ya xb yb xc yc = 0
  · exact law7I_Y xa ya xb yb xc yc xd yd w hw sxa sya sxb syb sxc syc sxd syd h
  · exact law7I_N xa ya xb yb xc yc xd yd w hw sxa sya sxb syb sxc syc sxd syd h
end Go.Proofs.YtckeognbfdladaaDoor
