/-
  Law SegmentItself. (Written by law5.py.)
-/
import Derived.Test.YtckhgamojpbcgaaDoorLaw8a
namespace Go.Proofs.YtckhgamojpbcgaaDoor
open Go.RowKit
set_option maxRecDepth 100000
set_option linter.unusedVariables false
set_option linter.unusedSimpArgs false

set_option maxRecDepth 100000 in
set_option maxHeartbeats 4000000 in
theorem law_segmentItself (xa ya xb yb xc yc : Int) (w : World) (hw : Wts w) (sxa : S xa) (sya : S ya) (sxb : S xb) (syb : S yb) (sxc : S xc) (syc : S yc) :
    Calls Tryd.prog 7 #[.agg #[.int .i64 xa, .int .i64 ya], .agg #[.int .i64 xb, .int .i64 yb], .agg #[.int .i64 xc, .int .i64 yc]] w fun e w' => e = .returned (.bool true) ∧ Below w.heap.size w w' := by
  obtain ⟨W, hW⟩ : ∃ W, W = ((w.alloc (.cells #[.int .i64 xa, .int .i64 ya] 28)).alloc (.cells #[.int .i64 xb, .int .i64 yb] 28)).alloc (.cells #[.int .i64 xc, .int .i64 yc] 28) := ⟨_, rfl⟩
  have hb0 : Below w.heap.size w W := by rw [hW]; exact ((((Below.refl _ _).alloc (Nat.le_refl _) _).alloc (by simp) _).alloc (by simp; omega) _)
  have Ca_W_0 := Lib.hid (show W.cell? ⟨w.heap.size, 0, none⟩ = some (.int .i64 xa) by rw [hW]; simp [go_sem])
  have Ca_W_1 := Lib.hid (show W.cell? ⟨w.heap.size, 1, none⟩ = some (.int .i64 ya) by rw [hW]; simp [go_sem])
  have Cb_W_0 := Lib.hid (show W.cell? ⟨w.heap.size + 1, 0, none⟩ = some (.int .i64 xb) by rw [hW]; simp [go_sem])
  have Cb_W_1 := Lib.hid (show W.cell? ⟨w.heap.size + 1, 1, none⟩ = some (.int .i64 yb) by rw [hW]; simp [go_sem])
  have Cc_W_0 := Lib.hid (show W.cell? ⟨w.heap.size + 1 + 1, 0, none⟩ = some (.int .i64 xc) by rw [hW]; simp [go_sem])
  have Cc_W_1 := Lib.hid (show W.cell? ⟨w.heap.size + 1 + 1, 1, none⟩ = some (.int .i64 yc) by rw [hW]; simp [go_sem])
  have HW := Lib.hid hW
  clear hW
  go_enter Tryd.func7, Tryd.ntmps7
  go_upto_region 1 with (fail)
  rw [← HW.out]
  refine box_plan0 (c := ⟨w, W, (fun _ => none)⟩) (Ctx.ok_none hb0) [[], [(7, 0)], [(8, 1)], [(8, 1)], [(8, 1)], [(8, 1), (9, 2), (10, 3), (11, 4)], [(8, 1), (12, 5)], [(8, 1), (13, 6)], [(14, 7)], [(15, 8)], [(15, 8)], [(15, 8)], [(15, 8), (16, 9), (17, 10), (18, 11)], [(15, 8), (19, 12)], [(15, 8), (20, 13)], [(21, 14)], [(22, 15)], [(22, 15)], [(22, 15)], [(22, 15)], [(22, 15), (23, 16), (24, 17), (25, 18), (26, 19)], [(22, 15), (27, 20)], [(22, 15), (28, 21)], [(29, 22)], [(30, 23)], [(30, 23)], [(30, 23)], [(30, 23)], [(30, 23), (31, 24), (32, 25), (33, 26), (34, 27)], [(30, 23), (35, 28)], [(30, 23), (36, 29)], [(37, 30)], [(38, 31)], [(38, 31)], [(38, 31)], [(38, 31)], [(38, 31), (39, 32), (40, 33), (41, 34), (42, 35)], [(38, 31), (43, 36)], [(38, 31), (44, 37)], [(45, 38)]] [(7, 0), (8, 1), (9, 2), (10, 3), (11, 4), (12, 5), (13, 6), (14, 7), (15, 8), (16, 9), (17, 10), (18, 11), (19, 12), (20, 13), (21, 14), (22, 15), (23, 16), (24, 17), (25, 18), (26, 19), (27, 20), (28, 21), (29, 22), (30, 23), (31, 24), (32, 25), (33, 26), (34, 27), (35, 28), (36, 29), (37, 30), (38, 31), (39, 32), (40, 33), (41, 34), (42, 35), (43, 36), (44, 37), (45, 38), (6, 39)] [
      (fun v _ _ => v = .bool true),
      (fun v _ _ => v = .bool true),
      (fun v _ _ => v = .agg #[.int .i64 xa, .int .i64 ya]),
      (fun v _ _ => v = .agg #[.int .i64 xb, .int .i64 yb]),
      (fun v _ _ => v = .agg #[.int .i64 xa, .int .i64 ya]),
      (fun v _ _ => v = .int .u64 (mk (contB xa ya xb yb xa ya))),
      (fun v _ _ => v = .bool true),
      (fun v _ _ => v = .bool true),
      (fun v _ _ => v = .bool true),
      (fun v _ _ => v = .agg #[.int .i64 xa, .int .i64 ya]),
      (fun v _ _ => v = .agg #[.int .i64 xb, .int .i64 yb]),
      (fun v _ _ => v = .agg #[.int .i64 xb, .int .i64 yb]),
      (fun v _ _ => v = .int .u64 (mk (contB xa ya xb yb xb yb))),
      (fun v _ _ => v = .bool true),
      (fun v _ _ => v = .bool true),
      (fun v _ _ => v = .bool true),
      (fun v _ _ => v = .agg #[.int .i64 xa, .int .i64 ya]),
      (fun v _ _ => v = .agg #[.int .i64 xb, .int .i64 yb]),
      (fun v _ _ => v = .agg #[.int .i64 xa, .int .i64 ya]),
      (fun v _ _ => v = .agg #[.int .i64 xb, .int .i64 yb]),
      (fun v _ _ => v = .int .u64 (mk (meetB xa ya xb yb xa ya xb yb))),
      (fun v _ _ => v = .bool true),
      (fun v _ _ => v = .bool true),
      (fun v _ _ => v = .bool true),
      (fun v _ _ => v = .agg #[.int .i64 xa, .int .i64 ya]),
      (fun v _ _ => v = .agg #[.int .i64 xb, .int .i64 yb]),
      (fun v _ _ => v = .agg #[.int .i64 xb, .int .i64 yb]),
      (fun v _ _ => v = .agg #[.int .i64 xc, .int .i64 yc]),
      (fun v _ _ => v = .int .u64 (mk (meetB xa ya xb yb xb yb xc yc))),
      (fun v _ _ => v = .bool true),
      (fun v _ _ => v = .bool true),
      (fun v _ _ => v = .bool true),
      (fun v _ _ => v = .agg #[.int .i64 xa, .int .i64 ya]),
      (fun v _ _ => v = .agg #[.int .i64 xb, .int .i64 yb]),
      (fun v _ _ => v = .agg #[.int .i64 xa, .int .i64 ya]),
      (fun v _ _ => v = .agg #[.int .i64 xc, .int .i64 yc]),
      (fun v _ _ => v = .int .u64 (mk (crossB xa ya xb yb xa ya xc yc))),
      (fun v _ _ => v = .bool true),
      (fun v _ _ => v = .bool true),
      (fun v _ _ => v = .bool true)
    ] (fun _ => none) (by kernel_rfl) (by kernel_rfl) ⟨stab_eq, stab_eq, stab_eq, stab_eq, stab_eq, stab_eq, stab_eq, stab_eq, stab_eq, stab_eq, stab_eq, stab_eq, stab_eq, stab_eq, stab_eq, stab_eq, stab_eq, stab_eq, stab_eq, stab_eq, stab_eq, stab_eq, stab_eq, stab_eq, stab_eq, stab_eq, stab_eq, stab_eq, stab_eq, stab_eq, stab_eq, stab_eq, stab_eq, stab_eq, stab_eq, stab_eq, stab_eq, stab_eq, stab_eq, stab_eq, trivial⟩ ?steps ?fin
  case steps =>
    refine ⟨?_, ?_, ?_, ?_, ?_, ?_, ?_, ?_, ?_, ?_, ?_, ?_, ?_, ?_, ?_, ?_, ?_, ?_, ?_, ?_, ?_, ?_, ?_, ?_, ?_, ?_, ?_, ?_, ?_, ?_, ?_, ?_, ?_, ?_, ?_, ?_, ?_, ?_, ?_, ?_, trivial⟩
    · intro vs g w2 hI hF hR K hK
      simp only [Facts, fill, Act.put, z1, z2, z3, z4, z5, Nat.reduceAdd] at hF hR hK ⊢
      go_simp
      refine (gAlive8 hI hw).mono ?_
      rintro e w3 ⟨v3, rfl, hv, hb⟩
      exact hK _ _ _ (hI.call hb) (Step.call hI hb) hv
    · intro vs g w2 hI hF hR K hK
      simp only [Facts, fill, Act.put, z1, z2, z3, z4, z5, Nat.reduceAdd] at hF hR hK ⊢
      obtain ⟨r0, -⟩ := hR
      generalize vs 0 = x0 at *
      subst r0
      go_simp
      exact hK _ _ _ hI (Step.refl hI) rfl
    · intro vs g w2 hI hF hR K hK
      simp only [Facts, fill, Act.put, z1, z2, z3, z4, z5, Nat.reduceAdd] at hF hR hK ⊢
      obtain ⟨r1, -⟩ := hR
      generalize vs 1 = x1 at *
      subst r1
      have k0 := hI.cell Ca_W_0.out (fun _ h => by cases h)
      have k1 := hI.cell Ca_W_1.out (fun _ h => by cases h)
      go_simp
      exact hK _ _ _ hI (Step.refl hI) rfl
    · intro vs g w2 hI hF hR K hK
      simp only [Facts, fill, Act.put, z1, z2, z3, z4, z5, Nat.reduceAdd] at hF hR hK ⊢
      obtain ⟨r1, -⟩ := hR
      generalize vs 1 = x1 at *
      subst r1
      have k0 := hI.cell Cb_W_0.out (fun _ h => by cases h)
      have k1 := hI.cell Cb_W_1.out (fun _ h => by cases h)
      go_simp
      exact hK _ _ _ hI (Step.refl hI) rfl
    · intro vs g w2 hI hF hR K hK
      simp only [Facts, fill, Act.put, z1, z2, z3, z4, z5, Nat.reduceAdd] at hF hR hK ⊢
      obtain ⟨r1, -⟩ := hR
      generalize vs 1 = x1 at *
      subst r1
      have k0 := hI.cell Ca_W_0.out (fun _ h => by cases h)
      have k1 := hI.cell Ca_W_1.out (fun _ h => by cases h)
      go_simp
      exact hK _ _ _ hI (Step.refl hI) rfl
    · intro vs g w2 hI hF hR K hK
      simp only [Facts, fill, Act.put, z1, z2, z3, z4, z5, Nat.reduceAdd] at hF hR hK ⊢
      obtain ⟨r1, r2, r3, r4, -⟩ := hR
      generalize vs 1 = x1, vs 2 = x2, vs 3 = x3, vs 4 = x4 at *
      subst r1 r2 r3 r4
      go_simp
      refine (gSegContains hI hw (by first | assumption | (unfold S; decide)) (by first | assumption | (unfold S; decide)) (by first | assumption | (unfold S; decide)) (by first | assumption | (unfold S; decide)) (by first | assumption | (unfold S; decide)) (by first | assumption | (unfold S; decide))).mono ?_
      rintro e w3 ⟨v3, rfl, hv, hb⟩
      exact hK _ _ _ (hI.call hb) (Step.call hI hb) hv
    · intro vs g w2 hI hF hR K hK
      simp only [Facts, fill, Act.put, z1, z2, z3, z4, z5, Nat.reduceAdd] at hF hR hK ⊢
      obtain ⟨r1, r5, -⟩ := hR
      generalize vs 1 = x1, vs 5 = x5 at *
      subst r1 r5
      have hz : ((mk (contB xa ya xb yb xa ya)) == 18446744073709551615) = true := (q_cont_a xa ya xb yb)
      go_simp
      exact hK _ _ _ hI (Step.refl hI) rfl
    · intro vs g w2 hI hF hR K hK
      simp only [Facts, fill, Act.put, z1, z2, z3, z4, z5, Nat.reduceAdd] at hF hR hK ⊢
      obtain ⟨r1, r6, -⟩ := hR
      generalize vs 1 = x1, vs 6 = x6 at *
      subst r1 r6
      go_simp
      exact hK _ _ _ hI (Step.refl hI) rfl
    · intro vs g w2 hI hF hR K hK
      simp only [Facts, fill, Act.put, z1, z2, z3, z4, z5, Nat.reduceAdd] at hF hR hK ⊢
      obtain ⟨r7, -⟩ := hR
      generalize vs 7 = x7 at *
      subst r7
      go_simp
      exact hK _ _ _ hI (Step.refl hI) rfl
    · intro vs g w2 hI hF hR K hK
      simp only [Facts, fill, Act.put, z1, z2, z3, z4, z5, Nat.reduceAdd] at hF hR hK ⊢
      obtain ⟨r8, -⟩ := hR
      generalize vs 8 = x8 at *
      subst r8
      have k0 := hI.cell Ca_W_0.out (fun _ h => by cases h)
      have k1 := hI.cell Ca_W_1.out (fun _ h => by cases h)
      go_simp
      exact hK _ _ _ hI (Step.refl hI) rfl
    · intro vs g w2 hI hF hR K hK
      simp only [Facts, fill, Act.put, z1, z2, z3, z4, z5, Nat.reduceAdd] at hF hR hK ⊢
      obtain ⟨r8, -⟩ := hR
      generalize vs 8 = x8 at *
      subst r8
      have k0 := hI.cell Cb_W_0.out (fun _ h => by cases h)
      have k1 := hI.cell Cb_W_1.out (fun _ h => by cases h)
      go_simp
      exact hK _ _ _ hI (Step.refl hI) rfl
    · intro vs g w2 hI hF hR K hK
      simp only [Facts, fill, Act.put, z1, z2, z3, z4, z5, Nat.reduceAdd] at hF hR hK ⊢
      obtain ⟨r8, -⟩ := hR
      generalize vs 8 = x8 at *
      subst r8
      have k0 := hI.cell Cb_W_0.out (fun _ h => by cases h)
      have k1 := hI.cell Cb_W_1.out (fun _ h => by cases h)
      go_simp
      exact hK _ _ _ hI (Step.refl hI) rfl
    · intro vs g w2 hI hF hR K hK
      simp only [Facts, fill, Act.put, z1, z2, z3, z4, z5, Nat.reduceAdd] at hF hR hK ⊢
      obtain ⟨r8, r9, r10, r11, -⟩ := hR
      generalize vs 8 = x8, vs 9 = x9, vs 10 = x10, vs 11 = x11 at *
      subst r8 r9 r10 r11
      go_simp
      refine (gSegContains hI hw (by first | assumption | (unfold S; decide)) (by first | assumption | (unfold S; decide)) (by first | assumption | (unfold S; decide)) (by first | assumption | (unfold S; decide)) (by first | assumption | (unfold S; decide)) (by first | assumption | (unfold S; decide))).mono ?_
      rintro e w3 ⟨v3, rfl, hv, hb⟩
      exact hK _ _ _ (hI.call hb) (Step.call hI hb) hv
    · intro vs g w2 hI hF hR K hK
      simp only [Facts, fill, Act.put, z1, z2, z3, z4, z5, Nat.reduceAdd] at hF hR hK ⊢
      obtain ⟨r8, r12, -⟩ := hR
      generalize vs 8 = x8, vs 12 = x12 at *
      subst r8 r12
      have hz : ((mk (contB xa ya xb yb xb yb)) == 18446744073709551615) = true := (q_cont_b xa ya xb yb)
      go_simp
      exact hK _ _ _ hI (Step.refl hI) rfl
    · intro vs g w2 hI hF hR K hK
      simp only [Facts, fill, Act.put, z1, z2, z3, z4, z5, Nat.reduceAdd] at hF hR hK ⊢
      obtain ⟨r8, r13, -⟩ := hR
      generalize vs 8 = x8, vs 13 = x13 at *
      subst r8 r13
      go_simp
      exact hK _ _ _ hI (Step.refl hI) rfl
    · intro vs g w2 hI hF hR K hK
      simp only [Facts, fill, Act.put, z1, z2, z3, z4, z5, Nat.reduceAdd] at hF hR hK ⊢
      obtain ⟨r14, -⟩ := hR
      generalize vs 14 = x14 at *
      subst r14
      go_simp
      exact hK _ _ _ hI (Step.refl hI) rfl
    · intro vs g w2 hI hF hR K hK
      simp only [Facts, fill, Act.put, z1, z2, z3, z4, z5, Nat.reduceAdd] at hF hR hK ⊢
      obtain ⟨r15, -⟩ := hR
      generalize vs 15 = x15 at *
      subst r15
      have k0 := hI.cell Ca_W_0.out (fun _ h => by cases h)
      have k1 := hI.cell Ca_W_1.out (fun _ h => by cases h)
      go_simp
      exact hK _ _ _ hI (Step.refl hI) rfl
    · intro vs g w2 hI hF hR K hK
      simp only [Facts, fill, Act.put, z1, z2, z3, z4, z5, Nat.reduceAdd] at hF hR hK ⊢
      obtain ⟨r15, -⟩ := hR
      generalize vs 15 = x15 at *
      subst r15
      have k0 := hI.cell Cb_W_0.out (fun _ h => by cases h)
      have k1 := hI.cell Cb_W_1.out (fun _ h => by cases h)
      go_simp
      exact hK _ _ _ hI (Step.refl hI) rfl
    · intro vs g w2 hI hF hR K hK
      simp only [Facts, fill, Act.put, z1, z2, z3, z4, z5, Nat.reduceAdd] at hF hR hK ⊢
      obtain ⟨r15, -⟩ := hR
      generalize vs 15 = x15 at *
      subst r15
      have k0 := hI.cell Ca_W_0.out (fun _ h => by cases h)
      have k1 := hI.cell Ca_W_1.out (fun _ h => by cases h)
      go_simp
      exact hK _ _ _ hI (Step.refl hI) rfl
    · intro vs g w2 hI hF hR K hK
      simp only [Facts, fill, Act.put, z1, z2, z3, z4, z5, Nat.reduceAdd] at hF hR hK ⊢
      obtain ⟨r15, -⟩ := hR
      generalize vs 15 = x15 at *
      subst r15
      have k0 := hI.cell Cb_W_0.out (fun _ h => by cases h)
      have k1 := hI.cell Cb_W_1.out (fun _ h => by cases h)
      go_simp
      exact hK _ _ _ hI (Step.refl hI) rfl
    · intro vs g w2 hI hF hR K hK
      simp only [Facts, fill, Act.put, z1, z2, z3, z4, z5, Nat.reduceAdd] at hF hR hK ⊢
      obtain ⟨r15, r16, r17, r18, r19, -⟩ := hR
      generalize vs 15 = x15, vs 16 = x16, vs 17 = x17, vs 18 = x18, vs 19 = x19 at *
      subst r15 r16 r17 r18 r19
      go_simp
      refine (gSegMeets hI hw (by first | assumption | (unfold S; decide)) (by first | assumption | (unfold S; decide)) (by first | assumption | (unfold S; decide)) (by first | assumption | (unfold S; decide)) (by first | assumption | (unfold S; decide)) (by first | assumption | (unfold S; decide)) (by first | assumption | (unfold S; decide)) (by first | assumption | (unfold S; decide))).mono ?_
      rintro e w3 ⟨v3, rfl, hv, hb⟩
      exact hK _ _ _ (hI.call hb) (Step.call hI hb) hv
    · intro vs g w2 hI hF hR K hK
      simp only [Facts, fill, Act.put, z1, z2, z3, z4, z5, Nat.reduceAdd] at hF hR hK ⊢
      obtain ⟨r15, r20, -⟩ := hR
      generalize vs 15 = x15, vs 20 = x20 at *
      subst r15 r20
      have hz : ((mk (meetB xa ya xb yb xa ya xb yb)) == 18446744073709551615) = true := (q_meet_ab xa ya xb yb)
      go_simp
      exact hK _ _ _ hI (Step.refl hI) rfl
    · intro vs g w2 hI hF hR K hK
      simp only [Facts, fill, Act.put, z1, z2, z3, z4, z5, Nat.reduceAdd] at hF hR hK ⊢
      obtain ⟨r15, r21, -⟩ := hR
      generalize vs 15 = x15, vs 21 = x21 at *
      subst r15 r21
      go_simp
      exact hK _ _ _ hI (Step.refl hI) rfl
    · intro vs g w2 hI hF hR K hK
      simp only [Facts, fill, Act.put, z1, z2, z3, z4, z5, Nat.reduceAdd] at hF hR hK ⊢
      obtain ⟨r22, -⟩ := hR
      generalize vs 22 = x22 at *
      subst r22
      go_simp
      exact hK _ _ _ hI (Step.refl hI) rfl
    · intro vs g w2 hI hF hR K hK
      simp only [Facts, fill, Act.put, z1, z2, z3, z4, z5, Nat.reduceAdd] at hF hR hK ⊢
      obtain ⟨r23, -⟩ := hR
      generalize vs 23 = x23 at *
      subst r23
      have k0 := hI.cell Ca_W_0.out (fun _ h => by cases h)
      have k1 := hI.cell Ca_W_1.out (fun _ h => by cases h)
      go_simp
      exact hK _ _ _ hI (Step.refl hI) rfl
    · intro vs g w2 hI hF hR K hK
      simp only [Facts, fill, Act.put, z1, z2, z3, z4, z5, Nat.reduceAdd] at hF hR hK ⊢
      obtain ⟨r23, -⟩ := hR
      generalize vs 23 = x23 at *
      subst r23
      have k0 := hI.cell Cb_W_0.out (fun _ h => by cases h)
      have k1 := hI.cell Cb_W_1.out (fun _ h => by cases h)
      go_simp
      exact hK _ _ _ hI (Step.refl hI) rfl
    · intro vs g w2 hI hF hR K hK
      simp only [Facts, fill, Act.put, z1, z2, z3, z4, z5, Nat.reduceAdd] at hF hR hK ⊢
      obtain ⟨r23, -⟩ := hR
      generalize vs 23 = x23 at *
      subst r23
      have k0 := hI.cell Cb_W_0.out (fun _ h => by cases h)
      have k1 := hI.cell Cb_W_1.out (fun _ h => by cases h)
      go_simp
      exact hK _ _ _ hI (Step.refl hI) rfl
    · intro vs g w2 hI hF hR K hK
      simp only [Facts, fill, Act.put, z1, z2, z3, z4, z5, Nat.reduceAdd] at hF hR hK ⊢
      obtain ⟨r23, -⟩ := hR
      generalize vs 23 = x23 at *
      subst r23
      have k0 := hI.cell Cc_W_0.out (fun _ h => by cases h)
      have k1 := hI.cell Cc_W_1.out (fun _ h => by cases h)
      go_simp
      exact hK _ _ _ hI (Step.refl hI) rfl
    · intro vs g w2 hI hF hR K hK
      simp only [Facts, fill, Act.put, z1, z2, z3, z4, z5, Nat.reduceAdd] at hF hR hK ⊢
      obtain ⟨r23, r24, r25, r26, r27, -⟩ := hR
      generalize vs 23 = x23, vs 24 = x24, vs 25 = x25, vs 26 = x26, vs 27 = x27 at *
      subst r23 r24 r25 r26 r27
      go_simp
      refine (gSegMeets hI hw (by first | assumption | (unfold S; decide)) (by first | assumption | (unfold S; decide)) (by first | assumption | (unfold S; decide)) (by first | assumption | (unfold S; decide)) (by first | assumption | (unfold S; decide)) (by first | assumption | (unfold S; decide)) (by first | assumption | (unfold S; decide)) (by first | assumption | (unfold S; decide))).mono ?_
      rintro e w3 ⟨v3, rfl, hv, hb⟩
      exact hK _ _ _ (hI.call hb) (Step.call hI hb) hv
    · intro vs g w2 hI hF hR K hK
      simp only [Facts, fill, Act.put, z1, z2, z3, z4, z5, Nat.reduceAdd] at hF hR hK ⊢
      obtain ⟨r23, r28, -⟩ := hR
      generalize vs 23 = x23, vs 28 = x28 at *
      subst r23 r28
      have hz : ((mk (meetB xa ya xb yb xb yb xc yc)) == 18446744073709551615) = true := (q_meet_bc xa ya xb yb xc yc)
      go_simp
      exact hK _ _ _ hI (Step.refl hI) rfl
    · intro vs g w2 hI hF hR K hK
      simp only [Facts, fill, Act.put, z1, z2, z3, z4, z5, Nat.reduceAdd] at hF hR hK ⊢
      obtain ⟨r23, r29, -⟩ := hR
      generalize vs 23 = x23, vs 29 = x29 at *
      subst r23 r29
      go_simp
      exact hK _ _ _ hI (Step.refl hI) rfl
    · intro vs g w2 hI hF hR K hK
      simp only [Facts, fill, Act.put, z1, z2, z3, z4, z5, Nat.reduceAdd] at hF hR hK ⊢
      obtain ⟨r30, -⟩ := hR
      generalize vs 30 = x30 at *
      subst r30
      go_simp
      exact hK _ _ _ hI (Step.refl hI) rfl
    · intro vs g w2 hI hF hR K hK
      simp only [Facts, fill, Act.put, z1, z2, z3, z4, z5, Nat.reduceAdd] at hF hR hK ⊢
      obtain ⟨r31, -⟩ := hR
      generalize vs 31 = x31 at *
      subst r31
      have k0 := hI.cell Ca_W_0.out (fun _ h => by cases h)
      have k1 := hI.cell Ca_W_1.out (fun _ h => by cases h)
      go_simp
      exact hK _ _ _ hI (Step.refl hI) rfl
    · intro vs g w2 hI hF hR K hK
      simp only [Facts, fill, Act.put, z1, z2, z3, z4, z5, Nat.reduceAdd] at hF hR hK ⊢
      obtain ⟨r31, -⟩ := hR
      generalize vs 31 = x31 at *
      subst r31
      have k0 := hI.cell Cb_W_0.out (fun _ h => by cases h)
      have k1 := hI.cell Cb_W_1.out (fun _ h => by cases h)
      go_simp
      exact hK _ _ _ hI (Step.refl hI) rfl
    · intro vs g w2 hI hF hR K hK
      simp only [Facts, fill, Act.put, z1, z2, z3, z4, z5, Nat.reduceAdd] at hF hR hK ⊢
      obtain ⟨r31, -⟩ := hR
      generalize vs 31 = x31 at *
      subst r31
      have k0 := hI.cell Ca_W_0.out (fun _ h => by cases h)
      have k1 := hI.cell Ca_W_1.out (fun _ h => by cases h)
      go_simp
      exact hK _ _ _ hI (Step.refl hI) rfl
    · intro vs g w2 hI hF hR K hK
      simp only [Facts, fill, Act.put, z1, z2, z3, z4, z5, Nat.reduceAdd] at hF hR hK ⊢
      obtain ⟨r31, -⟩ := hR
      generalize vs 31 = x31 at *
      subst r31
      have k0 := hI.cell Cc_W_0.out (fun _ h => by cases h)
      have k1 := hI.cell Cc_W_1.out (fun _ h => by cases h)
      go_simp
      exact hK _ _ _ hI (Step.refl hI) rfl
    · intro vs g w2 hI hF hR K hK
      simp only [Facts, fill, Act.put, z1, z2, z3, z4, z5, Nat.reduceAdd] at hF hR hK ⊢
      obtain ⟨r31, r32, r33, r34, r35, -⟩ := hR
      generalize vs 31 = x31, vs 32 = x32, vs 33 = x33, vs 34 = x34, vs 35 = x35 at *
      subst r31 r32 r33 r34 r35
      go_simp
      refine (gSegCrosses hI hw (by first | assumption | (unfold S; decide)) (by first | assumption | (unfold S; decide)) (by first | assumption | (unfold S; decide)) (by first | assumption | (unfold S; decide)) (by first | assumption | (unfold S; decide)) (by first | assumption | (unfold S; decide)) (by first | assumption | (unfold S; decide)) (by first | assumption | (unfold S; decide))).mono ?_
      rintro e w3 ⟨v3, rfl, hv, hb⟩
      exact hK _ _ _ (hI.call hb) (Step.call hI hb) hv
    · intro vs g w2 hI hF hR K hK
      simp only [Facts, fill, Act.put, z1, z2, z3, z4, z5, Nat.reduceAdd] at hF hR hK ⊢
      obtain ⟨r31, r36, -⟩ := hR
      generalize vs 31 = x31, vs 36 = x36 at *
      subst r31 r36
      have hz : ((mk (crossB xa ya xb yb xa ya xc yc)) == 0) = true := (q_cross_ac xa ya xb yb xc yc)
      go_simp
      exact hK _ _ _ hI (Step.refl hI) rfl
    · intro vs g w2 hI hF hR K hK
      simp only [Facts, fill, Act.put, z1, z2, z3, z4, z5, Nat.reduceAdd] at hF hR hK ⊢
      obtain ⟨r31, r37, -⟩ := hR
      generalize vs 31 = x31, vs 37 = x37 at *
      subst r31 r37
      go_simp
      exact hK _ _ _ hI (Step.refl hI) rfl
    · intro vs g w2 hI hF hR K hK
      simp only [Facts, fill, Act.put, z1, z2, z3, z4, z5, Nat.reduceAdd] at hF hR hK ⊢
      obtain ⟨r38, -⟩ := hR
      generalize vs 38 = x38 at *
      subst r38
      go_simp
      exact hK _ _ _ hI (Step.refl hI) rfl
  case fin =>
    intro vs g wR1 hI hR
    have r39 := hR 39 (by decide)
    simp only [fill, Act.put, z1, z2, z3, z4, z5] at r39 ⊢
    clear hR
    generalize vs 39 = x39 at *
    have Ca_R1_0 := Lib.hid (hI.cell Ca_W_0.out (fun _ h => by cases h))
    have Ca_R1_1 := Lib.hid (hI.cell Ca_W_1.out (fun _ h => by cases h))
    have Cb_R1_0 := Lib.hid (hI.cell Cb_W_0.out (fun _ h => by cases h))
    have Cb_R1_1 := Lib.hid (hI.cell Cb_W_1.out (fun _ h => by cases h))
    have Cc_R1_0 := Lib.hid (hI.cell Cc_W_0.out (fun _ h => by cases h))
    have Cc_R1_1 := Lib.hid (hI.cell Cc_W_1.out (fun _ h => by cases h))
    subst r39
    have hBR1 := hI.below
    have HCR1 := hI.next (Ctx.ok_none hb0)
    clear hI
    go_wp2
    go_ret
    exact ⟨rfl, hBR1⟩
end Go.Proofs.YtckhgamojpbcgaaDoor
