/-
  Contracts of package plane. (Written by law9.py.)
-/
import Derived.Test.YthdboeegngcfeaaPlaneB
namespace Go.Proofs.Ythdboeegngcfeaa
open Go.RowKit
set_option maxRecDepth 100000
set_option linter.unusedVariables false
set_option linter.unusedSimpArgs false

theorem gPlPointC {c : Ctx} {g : Gh} {w : World} {n m : Int} {v : Value} (hI : RInv c g w) (h : CxI n m v g w) (kn : Bd 9007199254740992 n) (km : Bd 9007199254740992 m) :
    Calls Try.prog 21 #[v] w (Gives (fun v _ _ => v = .tuple #[.agg #[.int .i64 n, .int .i64 m], .int .i64 0]) g w) := by
  obtain ⟨r, i, rfl, h1, h2⟩ := h
  exact gPlPoint hI h1 h2 kn km
theorem ptsR_open {n : Nat} {l : List Int} {v : Value} {g : Gh} {w : World} (h : PtsR n l v g w) : ∃ A c, v = .slice A n c ∧ True := by
  obtain ⟨A, c, e, _⟩ := h
  exact ⟨A, c, e, trivial⟩
set_option maxRecDepth 100000 in
set_option maxHeartbeats 4000000 in
theorem gPlOrient {c0 : Ctx} {g0 : Gh} {w : World} {xa ya xb yb xc yc : Int} (hI0 : RInv c0 g0 w) (ha : smallB xa ya = true) (hb : smallB xb yb = true) (hc : smallB xc yc = true) :
    Calls Try.prog 9 #[.agg #[.int .i64 xa, .int .i64 ya], .agg #[.int .i64 xb, .int .i64 yb], .agg #[.int .i64 xc, .int .i64 yc]] w (Gives (fun v _ _ => v = .tuple #[.int .i64 (orS xa ya xb yb xc yc), .int .i64 0]) g0 w) := by
  obtain ⟨bxa, bya⟩ := small_bd ha
  obtain ⟨bxb, byb⟩ := small_bd hb
  obtain ⟨bxc, byc⟩ := small_bd hc
  have sxa := bxa.s (by decide)
  have sxb := bxb.s (by decide)
  have sxc := bxc.s (by decide)
  have sya := bya.s (by decide)
  have syb := byb.s (by decide)
  have syc := byc.s (by decide)
  have HA := Lib.hid (show (smallB xa ya && smallB xb yb && smallB xc yc) = true by rw [ha, hb, hc]; rfl)
  clear ha hb hc
  obtain ⟨W, hW⟩ : ∃ W, W = ((w.alloc (.cells #[.int .i64 xa, .int .i64 ya] 23)).alloc (.cells #[.int .i64 xb, .int .i64 yb] 23)).alloc (.cells #[.int .i64 xc, .int .i64 yc] 23) := ⟨_, rfl⟩
  have hb0 : Below w.heap.size w W := by rw [hW]; exact ((((Below.refl _ _).alloc (Nat.le_refl _) _).alloc (by simp) _).alloc (by simp; omega) _)
  have HOK := Ctx.ok_lift0 hI0 hb0
  have C0_W_0 := Lib.hid (show W.cell? ⟨w.heap.size, 0, none⟩ = some (.int .i64 xa) by rw [hW]; simp [go_sem])
  have C0_W_1 := Lib.hid (show W.cell? ⟨w.heap.size, 1, none⟩ = some (.int .i64 ya) by rw [hW]; simp [go_sem])
  have HO0 : Off (lift0 g0) (w.heap.size) := lift0_off (hI0.offs _ (by omega))
  have C1_W_0 := Lib.hid (show W.cell? ⟨w.heap.size + 1, 0, none⟩ = some (.int .i64 xb) by rw [hW]; simp [go_sem])
  have C1_W_1 := Lib.hid (show W.cell? ⟨w.heap.size + 1, 1, none⟩ = some (.int .i64 yb) by rw [hW]; simp [go_sem])
  have HO1 : Off (lift0 g0) (w.heap.size + 1) := lift0_off (hI0.offs _ (by omega))
  have C2_W_0 := Lib.hid (show W.cell? ⟨w.heap.size + 1 + 1, 0, none⟩ = some (.int .i64 xc) by rw [hW]; simp [go_sem])
  have C2_W_1 := Lib.hid (show W.cell? ⟨w.heap.size + 1 + 1, 1, none⟩ = some (.int .i64 yc) by rw [hW]; simp [go_sem])
  have HO2 : Off (lift0 g0) (w.heap.size + 1 + 1) := lift0_off (hI0.offs _ (by omega))
  have HW := Lib.hid hW
  clear hW
  go_enter Try.func9, Try.ntmps9
  go_upto_region 1 with (fail)
  rw [← HW.out]
  refine box_plan0 (c := ⟨w, W, (lift0 g0)⟩) HOK [[], [], [], [(10, 0), (11, 1), (12, 2)], [(13, 3)], [(14, 4)]] [(10, 0), (11, 1), (12, 2), (13, 3), (14, 4), (15, 5)] [
      (fun v _ _ => v = .agg #[.int .i64 xa, .int .i64 ya]),
      (fun v _ _ => v = .agg #[.int .i64 xb, .int .i64 yb]),
      (fun v _ _ => v = .agg #[.int .i64 xc, .int .i64 yc]),
      PtsR 3 ([xa, ya, xb, yb, xc, yc]),
      (fun v _ _ => v = .bool true),
      (fun v _ _ => v = .bool false)
    ] (fun _ => none) (by kernel_rfl) (by kernel_rfl) ⟨stab_eq, stab_eq, stab_eq, stab_firm (ptsR_firm _ _), stab_eq, stab_eq, trivial⟩ ?steps ?fin
  case steps =>
    refine ⟨?_, ?_, ?_, ?_, ?_, ?_, trivial⟩
    · intro vs g w2 hI hF hR K hK
      simp only [Facts, fill, Act.put, z1, z2, z3, z4, z5, Nat.reduceAdd] at hF hR hK ⊢
      have k0 := hI.cell C0_W_0.out (by first | exact HO0 | exact HO1 | exact HO2 | assumption)
      have k1 := hI.cell C0_W_1.out (by first | exact HO0 | exact HO1 | exact HO2 | assumption)
      go_simp
      exact hK _ _ _ hI (Step.refl hI) rfl
    · intro vs g w2 hI hF hR K hK
      simp only [Facts, fill, Act.put, z1, z2, z3, z4, z5, Nat.reduceAdd] at hF hR hK ⊢
      have k0 := hI.cell C1_W_0.out (by first | exact HO0 | exact HO1 | exact HO2 | assumption)
      have k1 := hI.cell C1_W_1.out (by first | exact HO0 | exact HO1 | exact HO2 | assumption)
      go_simp
      exact hK _ _ _ hI (Step.refl hI) rfl
    · intro vs g w2 hI hF hR K hK
      simp only [Facts, fill, Act.put, z1, z2, z3, z4, z5, Nat.reduceAdd] at hF hR hK ⊢
      have k0 := hI.cell C2_W_0.out (by first | exact HO0 | exact HO1 | exact HO2 | assumption)
      have k1 := hI.cell C2_W_1.out (by first | exact HO0 | exact HO1 | exact HO2 | assumption)
      go_simp
      exact hK _ _ _ hI (Step.refl hI) rfl
    · intro vs g w2 hI hF hR K hK
      simp only [Facts, fill, Act.put, z1, z2, z3, z4, z5, Nat.reduceAdd] at hF hR hK ⊢
      obtain ⟨r0, r1, r2, -⟩ := hR
      generalize vs 0 = x0, vs 1 = x1, vs 2 = x2 at *
      subst r0 r1 r2
      go_simp
      have hb : Below w2.heap.size w2 (w2.alloc (.cells #[.int .i64 xa, .int .i64 ya, .int .i64 xb, .int .i64 yb, .int .i64 xc, .int .i64 yc] 23)) := (Below.refl _ _).alloc (Nat.le_refl _) _
      exact hK _ _ _ (hI.call hb) (Step.call hI hb) (lit_pts hI 3 [xa, ya, xb, yb, xc, yc])
    · intro vs g w2 hI hF hR K hK
      simp only [Facts, fill, Act.put, z1, z2, z3, z4, z5, Nat.reduceAdd] at hF hR hK ⊢
      obtain ⟨r3, -⟩ := hR
      generalize vs 3 = x3 at *
      go_simp
      refine (gAre3 hI r3 (by first | assumption | (unfold S; decide)) (by first | assumption | (unfold S; decide)) (by first | assumption | (unfold S; decide)) (by first | assumption | (unfold S; decide)) (by first | assumption | (unfold S; decide)) (by first | assumption | (unfold S; decide)) HA.out).mono ?_
      rintro e w3 ⟨v3, rfl, hv, hb⟩
      exact hK _ _ _ (hI.call hb) (Step.call hI hb) hv
    · intro vs g w2 hI hF hR K hK
      simp only [Facts, fill, Act.put, z1, z2, z3, z4, z5, Nat.reduceAdd] at hF hR hK ⊢
      obtain ⟨r4, -⟩ := hR
      generalize vs 4 = x4 at *
      subst r4
      go_simp
      exact hK _ _ _ hI (Step.refl hI) rfl
  case fin =>
    intro vs g wR1 hI hR
    have r5 := hR 5 (by decide)
    simp only [fill, Act.put, z1, z2, z3, z4, z5] at r5 ⊢
    clear hR
    generalize vs 5 = x5 at *
    have C0_R1_0 := Lib.hid (hI.cell C0_W_0.out (by first | exact HO0 | exact HO1 | exact HO2 | assumption))
    have C0_R1_1 := Lib.hid (hI.cell C0_W_1.out (by first | exact HO0 | exact HO1 | exact HO2 | assumption))
    have C1_R1_0 := Lib.hid (hI.cell C1_W_0.out (by first | exact HO0 | exact HO1 | exact HO2 | assumption))
    have C1_R1_1 := Lib.hid (hI.cell C1_W_1.out (by first | exact HO0 | exact HO1 | exact HO2 | assumption))
    have C2_R1_0 := Lib.hid (hI.cell C2_W_0.out (by first | exact HO0 | exact HO1 | exact HO2 | assumption))
    have C2_R1_1 := Lib.hid (hI.cell C2_W_1.out (by first | exact HO0 | exact HO1 | exact HO2 | assumption))
    subst r5
    have hBR1 := hI.below
    have HCR1 := hI.next HOK
    clear hI
    go_upto_region 3 with (fail)
    refine box_plan0 (c := ⟨w, wR1, (lift0 g0)⟩) HCR1 [[], [(16, 0)], [(17, 1)]] [(16, 0), (17, 1), (8, 2)] [
        (fun v _ _ => v = .agg #[.int .i64 xa, .int .i64 ya]),
        (fun v _ _ => v = .complex .f64 (floatOfInt .f64 xa) (floatOfInt .f64 ya)),
        (fun v _ _ => v = .complex .f64 (floatOfInt .f64 xa) (floatOfInt .f64 ya))
      ] (fun _ => none) (by kernel_rfl) (by kernel_rfl) ⟨stab_eq, stab_eq, stab_eq, trivial⟩ ?steps ?fin
    case steps =>
      refine ⟨?_, ?_, ?_, trivial⟩
      · intro vs g w2 hI hF hR K hK
        simp only [Facts, fill, Act.put, z1, z2, z3, z4, z5, Nat.reduceAdd] at hF hR hK ⊢
        have k0 := hI.cell C0_R1_0.out (by first | exact HO0 | exact HO1 | exact HO2 | assumption)
        have k1 := hI.cell C0_R1_1.out (by first | exact HO0 | exact HO1 | exact HO2 | assumption)
        go_simp
        exact hK _ _ _ hI (Step.refl hI) rfl
      · intro vs g w2 hI hF hR K hK
        simp only [Facts, fill, Act.put, z1, z2, z3, z4, z5, Nat.reduceAdd] at hF hR hK ⊢
        obtain ⟨r0, -⟩ := hR
        generalize vs 0 = x0 at *
        subst r0
        go_simp
        refine (gPlComplex hI (by first | assumption | (unfold S; decide) | exact Bd.s (by first | assumption | exact trX_bd bxa bya | exact trY_bd bxa bya | exact Bd.neg (tmod4_bd _)) (by decide)) (by first | assumption | (unfold S; decide) | exact Bd.s (by first | assumption | exact trX_bd bxa bya | exact trY_bd bxa bya | exact Bd.neg (tmod4_bd _)) (by decide))).mono ?_
        rintro e w3 ⟨v3, rfl, hv, hb⟩
        exact hK _ _ _ (hI.call hb) (Step.call hI hb) hv
      · intro vs g w2 hI hF hR K hK
        simp only [Facts, fill, Act.put, z1, z2, z3, z4, z5, Nat.reduceAdd] at hF hR hK ⊢
        obtain ⟨r1, -⟩ := hR
        generalize vs 1 = x1 at *
        subst r1
        go_simp
        exact hK _ _ _ hI (Step.refl hI) rfl
    case fin =>
      intro vs g wR3 hI hR
      have r2 := hR 2 (by decide)
      simp only [fill, Act.put, z1, z2, z3, z4, z5] at r2 ⊢
      clear hR
      generalize vs 2 = x2 at *
      have C0_R3_0 := Lib.hid (hI.cell C0_R1_0.out (by first | exact HO0 | exact HO1 | exact HO2 | assumption))
      have C0_R3_1 := Lib.hid (hI.cell C0_R1_1.out (by first | exact HO0 | exact HO1 | exact HO2 | assumption))
      have C1_R3_0 := Lib.hid (hI.cell C1_R1_0.out (by first | exact HO0 | exact HO1 | exact HO2 | assumption))
      have C1_R3_1 := Lib.hid (hI.cell C1_R1_1.out (by first | exact HO0 | exact HO1 | exact HO2 | assumption))
      have C2_R3_0 := Lib.hid (hI.cell C2_R1_0.out (by first | exact HO0 | exact HO1 | exact HO2 | assumption))
      have C2_R3_1 := Lib.hid (hI.cell C2_R1_1.out (by first | exact HO0 | exact HO1 | exact HO2 | assumption))
      subst r2
      have hBR3 := hI.below
      have HCR3 := hI.next HCR1
      clear hI
      go_upto_region 4 with (fail)
      refine box_plan (c := ⟨w, wR3, (lift0 g0)⟩) HCR3 (by kernel_rfl) [[], [(18, 0)], [], [(19, 1), (20, 2)], [], [(22, 4)], [], [(23, 5), (24, 6)], [(21, 3), (25, 7)], [(26, 8)], [(27, 9)]] [(18, 0), (19, 1), (20, 2), (21, 3), (22, 4), (23, 5), (24, 6), (25, 7), (26, 8), (27, 9), (9, 10)] [
          (fun v _ _ => v = .agg #[.int .i64 xb, .int .i64 yb]),
          (fun v _ _ => v = .complex .f64 (floatOfInt .f64 xb) (floatOfInt .f64 yb)),
          (fun v _ _ => v = .complex .f64 (floatOfInt .f64 xa) (floatOfInt .f64 ya)),
          CxI (xb - xa) (yb - ya),
          (fun v _ _ => v = .agg #[.int .i64 xc, .int .i64 yc]),
          (fun v _ _ => v = .complex .f64 (floatOfInt .f64 xc) (floatOfInt .f64 yc)),
          (fun v _ _ => v = .complex .f64 (floatOfInt .f64 xa) (floatOfInt .f64 ya)),
          CxI (xc - xa) (yc - ya),
          CxI ((xb - xa) * (xc - xa) + (yb - ya) * (yc - ya)) ((xb - xa) * (yc - ya) - (yb - ya) * (xc - xa)),
          FlI ((xb - xa) * (yc - ya) - (yb - ya) * (xc - xa)),
          FlI ((xb - xa) * (yc - ya) - (yb - ya) * (xc - xa))
        ] (fun _ => none) (by kernel_rfl) (by kernel_rfl) ⟨stab_eq, stab_eq, stab_eq, stab_firm (cxI_firm _ _), stab_eq, stab_eq, stab_eq, stab_firm (cxI_firm _ _), stab_firm (cxI_firm _ _), stab_firm (flI_firm _), stab_firm (flI_firm _), trivial⟩ ?steps ?fin
      case steps =>
        refine ⟨?_, ?_, ?_, ?_, ?_, ?_, ?_, ?_, ?_, ?_, ?_, trivial⟩
        · intro vs g w2 hI hF hR K hK
          simp only [Facts, fill, Act.put, z1, z2, z3, z4, z5, Nat.reduceAdd] at hF hR hK ⊢
          have k0 := hI.cell C1_R3_0.out (by first | exact HO0 | exact HO1 | exact HO2 | assumption)
          have k1 := hI.cell C1_R3_1.out (by first | exact HO0 | exact HO1 | exact HO2 | assumption)
          go_simp
          exact hK _ _ _ hI (Step.refl hI) rfl
        · intro vs g w2 hI hF hR K hK
          simp only [Facts, fill, Act.put, z1, z2, z3, z4, z5, Nat.reduceAdd] at hF hR hK ⊢
          obtain ⟨r0, -⟩ := hR
          generalize vs 0 = x0 at *
          subst r0
          go_simp
          refine (gPlComplex hI (by first | assumption | (unfold S; decide) | exact Bd.s (by first | assumption | exact trX_bd bxa bya | exact trY_bd bxa bya | exact Bd.neg (tmod4_bd _)) (by decide)) (by first | assumption | (unfold S; decide) | exact Bd.s (by first | assumption | exact trX_bd bxa bya | exact trY_bd bxa bya | exact Bd.neg (tmod4_bd _)) (by decide))).mono ?_
          rintro e w3 ⟨v3, rfl, hv, hb⟩
          exact hK _ _ _ (hI.call hb) (Step.call hI hb) hv
        · intro vs g w2 hI hF hR K hK
          simp only [Facts, fill, Act.put, z1, z2, z3, z4, z5, Nat.reduceAdd] at hF hR hK ⊢
          go_simp
          exact hK _ _ _ hI (Step.refl hI) rfl
        · intro vs g w2 hI hF hR K hK
          simp only [Facts, fill, Act.put, z1, z2, z3, z4, z5, Nat.reduceAdd] at hF hR hK ⊢
          obtain ⟨r1, r2, -⟩ := hR
          generalize vs 1 = x1, vs 2 = x2 at *
          subst r1 r2
          obtain ⟨zr, zi, ez, fr, fi⟩ := cxSub (fiB bxb (by decide)) (fiB byb (by decide)) (fiB bxa (by decide)) (fiB bya (by decide)) bxb byb bxa bya (by decide)
          have hz := fun w => run_complex_sum (P := Try.prog) w .sub (by simp) 42 .f64 (floatOfInt .f64 xb) (floatOfInt .f64 yb) (floatOfInt .f64 xa) (floatOfInt .f64 ya) zr zi ez
          go_simp
          exact hK _ _ _ hI (Step.refl hI) ⟨_, _, rfl, fr, fi⟩
        · intro vs g w2 hI hF hR K hK
          simp only [Facts, fill, Act.put, z1, z2, z3, z4, z5, Nat.reduceAdd] at hF hR hK ⊢
          have k0 := hI.cell C2_R3_0.out (by first | exact HO0 | exact HO1 | exact HO2 | assumption)
          have k1 := hI.cell C2_R3_1.out (by first | exact HO0 | exact HO1 | exact HO2 | assumption)
          go_simp
          exact hK _ _ _ hI (Step.refl hI) rfl
        · intro vs g w2 hI hF hR K hK
          simp only [Facts, fill, Act.put, z1, z2, z3, z4, z5, Nat.reduceAdd] at hF hR hK ⊢
          obtain ⟨r4, -⟩ := hR
          generalize vs 4 = x4 at *
          subst r4
          go_simp
          refine (gPlComplex hI (by first | assumption | (unfold S; decide) | exact Bd.s (by first | assumption | exact trX_bd bxa bya | exact trY_bd bxa bya | exact Bd.neg (tmod4_bd _)) (by decide)) (by first | assumption | (unfold S; decide) | exact Bd.s (by first | assumption | exact trX_bd bxa bya | exact trY_bd bxa bya | exact Bd.neg (tmod4_bd _)) (by decide))).mono ?_
          rintro e w3 ⟨v3, rfl, hv, hb⟩
          exact hK _ _ _ (hI.call hb) (Step.call hI hb) hv
        · intro vs g w2 hI hF hR K hK
          simp only [Facts, fill, Act.put, z1, z2, z3, z4, z5, Nat.reduceAdd] at hF hR hK ⊢
          go_simp
          exact hK _ _ _ hI (Step.refl hI) rfl
        · intro vs g w2 hI hF hR K hK
          simp only [Facts, fill, Act.put, z1, z2, z3, z4, z5, Nat.reduceAdd] at hF hR hK ⊢
          obtain ⟨r5, r6, -⟩ := hR
          generalize vs 5 = x5, vs 6 = x6 at *
          subst r5 r6
          obtain ⟨zr, zi, ez, fr, fi⟩ := cxSub (fiB bxc (by decide)) (fiB byc (by decide)) (fiB bxa (by decide)) (fiB bya (by decide)) bxc byc bxa bya (by decide)
          have hz := fun w => run_complex_sum (P := Try.prog) w .sub (by simp) 42 .f64 (floatOfInt .f64 xc) (floatOfInt .f64 yc) (floatOfInt .f64 xa) (floatOfInt .f64 ya) zr zi ez
          go_simp
          exact hK _ _ _ hI (Step.refl hI) ⟨_, _, rfl, fr, fi⟩
        · intro vs g w2 hI hF hR K hK
          simp only [Facts, fill, Act.put, z1, z2, z3, z4, z5, Nat.reduceAdd] at hF hR hK ⊢
          obtain ⟨r3, r7, -⟩ := hR
          generalize vs 3 = x3, vs 7 = x7 at *
          go_simp
          refine (gConj hI r3 r7 (Bd.sub bxb bxa) (Bd.sub byb bya) (Bd.sub bxc bxa) (Bd.sub byc bya) (by decide)).mono ?_
          rintro e w3 ⟨v3, rfl, hv, hb⟩
          exact hK _ _ _ (hI.call hb) (Step.call hI hb) hv
        · intro vs g w2 hI hF hR K hK
          simp only [Facts, fill, Act.put, z1, z2, z3, z4, z5, Nat.reduceAdd] at hF hR hK ⊢
          obtain ⟨r8, -⟩ := hR
          generalize vs 8 = x8 at *
          obtain ⟨re9, im9, rfl, fr9, fi9⟩ := r8
          go_simp
          exact hK _ _ _ hI (Step.refl hI) ⟨_, rfl, fi9⟩
        · intro vs g w2 hI hF hR K hK
          simp only [Facts, fill, Act.put, z1, z2, z3, z4, z5, Nat.reduceAdd] at hF hR hK ⊢
          obtain ⟨r9, -⟩ := hR
          generalize vs 9 = x9 at *
          go_simp
          exact hK _ _ _ hI (Step.refl hI) r9
      case fin =>
        intro vs g wR4 hI hR
        have r10 := hR 10 (by decide)
        simp only [fill, Act.put, z1, z2, z3, z4, z5] at r10 ⊢
        clear hR
        generalize vs 10 = x10 at *
        have C0_R4_0 := Lib.hid (hI.cell C0_R3_0.out (by first | exact HO0 | exact HO1 | exact HO2 | assumption))
        have C0_R4_1 := Lib.hid (hI.cell C0_R3_1.out (by first | exact HO0 | exact HO1 | exact HO2 | assumption))
        have C1_R4_0 := Lib.hid (hI.cell C1_R3_0.out (by first | exact HO0 | exact HO1 | exact HO2 | assumption))
        have C1_R4_1 := Lib.hid (hI.cell C1_R3_1.out (by first | exact HO0 | exact HO1 | exact HO2 | assumption))
        have C2_R4_0 := Lib.hid (hI.cell C2_R3_0.out (by first | exact HO0 | exact HO1 | exact HO2 | assumption))
        have C2_R4_1 := Lib.hid (hI.cell C2_R3_1.out (by first | exact HO0 | exact HO1 | exact HO2 | assumption))
        have qfR49 := r10
        obtain ⟨fvR49, rfl, -⟩ := flI_open r10
        have FR49_R4_0 := Lib.hid ((flI_firm _) _ _ _ _ _ qfR49 hI.back)
        clear qfR49
        have hBR4 := hI.below
        have HCR4 := hI.next HCR3
        clear hI
        go_upto_region 5 with (fail)
        refine box_plan0 (c := ⟨w, wR4, (lift0 g0)⟩) HCR4 [[], [(28, 0)], [(29, 1)], []] [(28, 0), (29, 1), (6, 2), (7, 3)] [
            (fun v _ _ => v = .float .f64 fvR49),
            (fun v _ _ => v = .int .i64 ((xb - xa) * (yc - ya) - (yb - ya) * (xc - xa)).sign),
            (fun v _ _ => v = .int .i64 ((xb - xa) * (yc - ya) - (yb - ya) * (xc - xa)).sign),
            (fun v _ _ => v = .int .i64 0)
          ] (fun _ => none) (by kernel_rfl) (by kernel_rfl) ⟨stab_eq, stab_eq, stab_eq, stab_eq, trivial⟩ ?steps ?fin
        case steps =>
          refine ⟨?_, ?_, ?_, ?_, trivial⟩
          · intro vs g w2 hI hF hR K hK
            simp only [Facts, fill, Act.put, z1, z2, z3, z4, z5, Nat.reduceAdd] at hF hR hK ⊢
            go_simp
            exact hK _ _ _ hI (Step.refl hI) rfl
          · intro vs g w2 hI hF hR K hK
            simp only [Facts, fill, Act.put, z1, z2, z3, z4, z5, Nat.reduceAdd] at hF hR hK ⊢
            obtain ⟨r0, -⟩ := hR
            generalize vs 0 = x0 at *
            subst r0
            go_simp
            refine (gCmp0 hI ((flI_firm _) _ _ _ _ _ FR49_R4_0.out hI.keeps)).mono ?_
            rintro e w3 ⟨v3, rfl, hv, hb⟩
            exact hK _ _ _ (hI.call hb) (Step.call hI hb) hv
          · intro vs g w2 hI hF hR K hK
            simp only [Facts, fill, Act.put, z1, z2, z3, z4, z5, Nat.reduceAdd] at hF hR hK ⊢
            obtain ⟨r1, -⟩ := hR
            generalize vs 1 = x1 at *
            subst r1
            go_simp
            exact hK _ _ _ hI (Step.refl hI) rfl
          · intro vs g w2 hI hF hR K hK
            simp only [Facts, fill, Act.put, z1, z2, z3, z4, z5, Nat.reduceAdd] at hF hR hK ⊢
            go_simp
            exact hK _ _ _ hI (Step.refl hI) rfl
        case fin =>
          intro vs g wR5 hI hR
          have r2 := hR 2 (by decide)
          have r3 := hR 3 (by decide)
          simp only [fill, Act.put, z1, z2, z3, z4, z5] at r2 r3 ⊢
          clear hR
          generalize vs 2 = x2 at *
          generalize vs 3 = x3 at *
          have C0_R5_0 := Lib.hid (hI.cell C0_R4_0.out (by first | exact HO0 | exact HO1 | exact HO2 | assumption))
          have C0_R5_1 := Lib.hid (hI.cell C0_R4_1.out (by first | exact HO0 | exact HO1 | exact HO2 | assumption))
          have C1_R5_0 := Lib.hid (hI.cell C1_R4_0.out (by first | exact HO0 | exact HO1 | exact HO2 | assumption))
          have C1_R5_1 := Lib.hid (hI.cell C1_R4_1.out (by first | exact HO0 | exact HO1 | exact HO2 | assumption))
          have C2_R5_0 := Lib.hid (hI.cell C2_R4_0.out (by first | exact HO0 | exact HO1 | exact HO2 | assumption))
          have C2_R5_1 := Lib.hid (hI.cell C2_R4_1.out (by first | exact HO0 | exact HO1 | exact HO2 | assumption))
          have FR49_R5_0 := Lib.hid ((flI_firm _) _ _ _ _ _ FR49_R4_0.out hI.carry)
          subst r2
          subst r3
          have hBR5 := hI.below
          have HCR5 := hI.next HCR4
          clear hI
          go_wp2
          exact bodyPost_ret (v := .tuple #[.int .i64 (orS xa ya xb yb xc yc), .int .i64 0]) (by simp [results, Try.results9, go_sem, orS]) rfl ⟨_, rfl, rfl, hBR5⟩
set_option maxRecDepth 100000 in
set_option maxHeartbeats 4000000 in
theorem gPlOrientNo {c0 : Ctx} {g0 : Gh} {w : World} {xa ya xb yb xc yc : Int} (hI0 : RInv c0 g0 w) (sxa : S xa) (sya : S ya) (sxb : S xb) (syb : S yb) (sxc : S xc) (syc : S yc) (h : (smallB xa ya && smallB xb yb && smallB xc yc) = false) :
    Calls Try.prog 9 #[.agg #[.int .i64 xa, .int .i64 ya], .agg #[.int .i64 xb, .int .i64 yb], .agg #[.int .i64 xc, .int .i64 yc]] w (Gives (fun v _ _ => v = .tuple #[.int .i64 0, .int .i64 3]) g0 w) := by
  have HA := Lib.hid h
  clear h
  obtain ⟨W, hW⟩ : ∃ W, W = ((w.alloc (.cells #[.int .i64 xa, .int .i64 ya] 23)).alloc (.cells #[.int .i64 xb, .int .i64 yb] 23)).alloc (.cells #[.int .i64 xc, .int .i64 yc] 23) := ⟨_, rfl⟩
  have hb0 : Below w.heap.size w W := by rw [hW]; exact ((((Below.refl _ _).alloc (Nat.le_refl _) _).alloc (by simp) _).alloc (by simp; omega) _)
  have HOK := Ctx.ok_lift0 hI0 hb0
  have C0_W_0 := Lib.hid (show W.cell? ⟨w.heap.size, 0, none⟩ = some (.int .i64 xa) by rw [hW]; simp [go_sem])
  have C0_W_1 := Lib.hid (show W.cell? ⟨w.heap.size, 1, none⟩ = some (.int .i64 ya) by rw [hW]; simp [go_sem])
  have HO0 : Off (lift0 g0) (w.heap.size) := lift0_off (hI0.offs _ (by omega))
  have C1_W_0 := Lib.hid (show W.cell? ⟨w.heap.size + 1, 0, none⟩ = some (.int .i64 xb) by rw [hW]; simp [go_sem])
  have C1_W_1 := Lib.hid (show W.cell? ⟨w.heap.size + 1, 1, none⟩ = some (.int .i64 yb) by rw [hW]; simp [go_sem])
  have HO1 : Off (lift0 g0) (w.heap.size + 1) := lift0_off (hI0.offs _ (by omega))
  have C2_W_0 := Lib.hid (show W.cell? ⟨w.heap.size + 1 + 1, 0, none⟩ = some (.int .i64 xc) by rw [hW]; simp [go_sem])
  have C2_W_1 := Lib.hid (show W.cell? ⟨w.heap.size + 1 + 1, 1, none⟩ = some (.int .i64 yc) by rw [hW]; simp [go_sem])
  have HO2 : Off (lift0 g0) (w.heap.size + 1 + 1) := lift0_off (hI0.offs _ (by omega))
  have HW := Lib.hid hW
  clear hW
  go_enter Try.func9, Try.ntmps9
  go_upto_region 1 with (fail)
  rw [← HW.out]
  refine box_plan0 (c := ⟨w, W, (lift0 g0)⟩) HOK [[], [], [], [(10, 0), (11, 1), (12, 2)], [(13, 3)], [(14, 4)]] [(10, 0), (11, 1), (12, 2), (13, 3), (14, 4), (15, 5)] [
      (fun v _ _ => v = .agg #[.int .i64 xa, .int .i64 ya]),
      (fun v _ _ => v = .agg #[.int .i64 xb, .int .i64 yb]),
      (fun v _ _ => v = .agg #[.int .i64 xc, .int .i64 yc]),
      PtsR 3 ([xa, ya, xb, yb, xc, yc]),
      (fun v _ _ => v = .bool false),
      (fun v _ _ => v = .bool true)
    ] (fun _ => none) (by kernel_rfl) (by kernel_rfl) ⟨stab_eq, stab_eq, stab_eq, stab_firm (ptsR_firm _ _), stab_eq, stab_eq, trivial⟩ ?steps ?fin
  case steps =>
    refine ⟨?_, ?_, ?_, ?_, ?_, ?_, trivial⟩
    · intro vs g w2 hI hF hR K hK
      simp only [Facts, fill, Act.put, z1, z2, z3, z4, z5, Nat.reduceAdd] at hF hR hK ⊢
      have k0 := hI.cell C0_W_0.out (by first | exact HO0 | exact HO1 | exact HO2 | assumption)
      have k1 := hI.cell C0_W_1.out (by first | exact HO0 | exact HO1 | exact HO2 | assumption)
      go_simp
      exact hK _ _ _ hI (Step.refl hI) rfl
    · intro vs g w2 hI hF hR K hK
      simp only [Facts, fill, Act.put, z1, z2, z3, z4, z5, Nat.reduceAdd] at hF hR hK ⊢
      have k0 := hI.cell C1_W_0.out (by first | exact HO0 | exact HO1 | exact HO2 | assumption)
      have k1 := hI.cell C1_W_1.out (by first | exact HO0 | exact HO1 | exact HO2 | assumption)
      go_simp
      exact hK _ _ _ hI (Step.refl hI) rfl
    · intro vs g w2 hI hF hR K hK
      simp only [Facts, fill, Act.put, z1, z2, z3, z4, z5, Nat.reduceAdd] at hF hR hK ⊢
      have k0 := hI.cell C2_W_0.out (by first | exact HO0 | exact HO1 | exact HO2 | assumption)
      have k1 := hI.cell C2_W_1.out (by first | exact HO0 | exact HO1 | exact HO2 | assumption)
      go_simp
      exact hK _ _ _ hI (Step.refl hI) rfl
    · intro vs g w2 hI hF hR K hK
      simp only [Facts, fill, Act.put, z1, z2, z3, z4, z5, Nat.reduceAdd] at hF hR hK ⊢
      obtain ⟨r0, r1, r2, -⟩ := hR
      generalize vs 0 = x0, vs 1 = x1, vs 2 = x2 at *
      subst r0 r1 r2
      go_simp
      have hb : Below w2.heap.size w2 (w2.alloc (.cells #[.int .i64 xa, .int .i64 ya, .int .i64 xb, .int .i64 yb, .int .i64 xc, .int .i64 yc] 23)) := (Below.refl _ _).alloc (Nat.le_refl _) _
      exact hK _ _ _ (hI.call hb) (Step.call hI hb) (lit_pts hI 3 [xa, ya, xb, yb, xc, yc])
    · intro vs g w2 hI hF hR K hK
      simp only [Facts, fill, Act.put, z1, z2, z3, z4, z5, Nat.reduceAdd] at hF hR hK ⊢
      obtain ⟨r3, -⟩ := hR
      generalize vs 3 = x3 at *
      go_simp
      refine (gAre3 hI r3 (by first | assumption | (unfold S; decide)) (by first | assumption | (unfold S; decide)) (by first | assumption | (unfold S; decide)) (by first | assumption | (unfold S; decide)) (by first | assumption | (unfold S; decide)) (by first | assumption | (unfold S; decide)) HA.out).mono ?_
      rintro e w3 ⟨v3, rfl, hv, hb⟩
      exact hK _ _ _ (hI.call hb) (Step.call hI hb) hv
    · intro vs g w2 hI hF hR K hK
      simp only [Facts, fill, Act.put, z1, z2, z3, z4, z5, Nat.reduceAdd] at hF hR hK ⊢
      obtain ⟨r4, -⟩ := hR
      generalize vs 4 = x4 at *
      subst r4
      go_simp
      exact hK _ _ _ hI (Step.refl hI) rfl
  case fin =>
    intro vs g wR1 hI hR
    have r5 := hR 5 (by decide)
    simp only [fill, Act.put, z1, z2, z3, z4, z5] at r5 ⊢
    clear hR
    generalize vs 5 = x5 at *
    have C0_R1_0 := Lib.hid (hI.cell C0_W_0.out (by first | exact HO0 | exact HO1 | exact HO2 | assumption))
    have C0_R1_1 := Lib.hid (hI.cell C0_W_1.out (by first | exact HO0 | exact HO1 | exact HO2 | assumption))
    have C1_R1_0 := Lib.hid (hI.cell C1_W_0.out (by first | exact HO0 | exact HO1 | exact HO2 | assumption))
    have C1_R1_1 := Lib.hid (hI.cell C1_W_1.out (by first | exact HO0 | exact HO1 | exact HO2 | assumption))
    have C2_R1_0 := Lib.hid (hI.cell C2_W_0.out (by first | exact HO0 | exact HO1 | exact HO2 | assumption))
    have C2_R1_1 := Lib.hid (hI.cell C2_W_1.out (by first | exact HO0 | exact HO1 | exact HO2 | assumption))
    subst r5
    have hBR1 := hI.below
    have HCR1 := hI.next HOK
    clear hI
    go_wp2
    exact bodyPost_ret (v := .tuple #[.int .i64 0, .int .i64 3]) (by simp [results, Try.results9, go_sem, orS]) rfl ⟨_, rfl, rfl, hBR1⟩
set_option maxRecDepth 100000 in
set_option maxHeartbeats 4000000 in
theorem gPlProduct {c0 : Ctx} {g0 : Gh} {w : World} {xa ya xb yb : Int} (hI0 : RInv c0 g0 w) (ha : smallB xa ya = true) (hb : smallB xb yb = true) :
    Calls Try.prog 14 #[.agg #[.int .i64 xa, .int .i64 ya], .agg #[.int .i64 xb, .int .i64 yb]] w (Gives (fun v _ _ => v = .tuple #[.agg #[.int .i64 (xa * xb - ya * yb), .int .i64 (xa * yb + ya * xb)], .int .i64 0]) g0 w) := by
  obtain ⟨bxa, bya⟩ := small_bd ha
  obtain ⟨bxb, byb⟩ := small_bd hb
  have sxa := bxa.s (by decide)
  have sxb := bxb.s (by decide)
  have sya := bya.s (by decide)
  have syb := byb.s (by decide)
  have HA := Lib.hid (show (smallB xa ya && smallB xb yb) = true by rw [ha, hb]; rfl)
  clear ha hb
  obtain ⟨W, hW⟩ : ∃ W, W = ((w.alloc (.cells #[.int .i64 xa, .int .i64 ya] 23)).alloc (.cells #[.int .i64 xb, .int .i64 yb] 23)).alloc (.cells #[.int .i64 0, .int .i64 0] 23) := ⟨_, rfl⟩
  have hb0 : Below w.heap.size w W := by rw [hW]; exact ((((Below.refl _ _).alloc (Nat.le_refl _) _).alloc (by simp) _).alloc (by simp; omega) _)
  have HOK := Ctx.ok_lift (k := w.heap.size + 1 + 1) hI0 hb0 (by omega) (by rw [hW]; simp; try omega)
  have HBX := Lib.hid (show HasBox W (w.heap.size + 1 + 1) 2 by rw [hW]; have := box2' ((w.alloc (.cells #[.int .i64 xa, .int .i64 ya] 23)).alloc (.cells #[.int .i64 xb, .int .i64 yb] 23)) (.int .i64 0) (.int .i64 0) 23; simpa using this)
  have C0_W_0 := Lib.hid (show W.cell? ⟨w.heap.size, 0, none⟩ = some (.int .i64 xa) by rw [hW]; simp [go_sem])
  have C0_W_1 := Lib.hid (show W.cell? ⟨w.heap.size, 1, none⟩ = some (.int .i64 ya) by rw [hW]; simp [go_sem])
  have HO0 : Off (lift g0 (w.heap.size + 1 + 1)) (w.heap.size) := lift_off (hI0.offs _ (by omega)) (by omega)
  have C1_W_0 := Lib.hid (show W.cell? ⟨w.heap.size + 1, 0, none⟩ = some (.int .i64 xb) by rw [hW]; simp [go_sem])
  have C1_W_1 := Lib.hid (show W.cell? ⟨w.heap.size + 1, 1, none⟩ = some (.int .i64 yb) by rw [hW]; simp [go_sem])
  have HO1 : Off (lift g0 (w.heap.size + 1 + 1)) (w.heap.size + 1) := lift_off (hI0.offs _ (by omega)) (by omega)
  have HW := Lib.hid hW
  clear hW
  go_enter Try.func14, Try.ntmps14
  go_upto_region 1 with (fail)
  rw [← HW.out]
  refine box_plan0 (c := ⟨w, W, (lift g0 (w.heap.size + 1 + 1))⟩) HOK [[], [], [(6, 0), (7, 1)], [(8, 2)], [(9, 3)]] [(6, 0), (7, 1), (8, 2), (9, 3), (10, 4)] [
      (fun v _ _ => v = .agg #[.int .i64 xa, .int .i64 ya]),
      (fun v _ _ => v = .agg #[.int .i64 xb, .int .i64 yb]),
      PtsR 2 ([xa, ya, xb, yb]),
      (fun v _ _ => v = .bool true),
      (fun v _ _ => v = .bool false)
    ] (fun _ => none) (by kernel_rfl) (by kernel_rfl) ⟨stab_eq, stab_eq, stab_firm (ptsR_firm _ _), stab_eq, stab_eq, trivial⟩ ?steps ?fin
  case steps =>
    refine ⟨?_, ?_, ?_, ?_, ?_, trivial⟩
    · intro vs g w2 hI hF hR K hK
      simp only [Facts, fill, Act.put, z1, z2, z3, z4, z5, Nat.reduceAdd] at hF hR hK ⊢
      have k0 := hI.cell C0_W_0.out (by first | exact HO0 | exact HO1 | assumption)
      have k1 := hI.cell C0_W_1.out (by first | exact HO0 | exact HO1 | assumption)
      go_simp
      exact hK _ _ _ hI (Step.refl hI) rfl
    · intro vs g w2 hI hF hR K hK
      simp only [Facts, fill, Act.put, z1, z2, z3, z4, z5, Nat.reduceAdd] at hF hR hK ⊢
      have k0 := hI.cell C1_W_0.out (by first | exact HO0 | exact HO1 | assumption)
      have k1 := hI.cell C1_W_1.out (by first | exact HO0 | exact HO1 | assumption)
      go_simp
      exact hK _ _ _ hI (Step.refl hI) rfl
    · intro vs g w2 hI hF hR K hK
      simp only [Facts, fill, Act.put, z1, z2, z3, z4, z5, Nat.reduceAdd] at hF hR hK ⊢
      obtain ⟨r0, r1, -⟩ := hR
      generalize vs 0 = x0, vs 1 = x1 at *
      subst r0 r1
      go_simp
      have hb : Below w2.heap.size w2 (w2.alloc (.cells #[.int .i64 xa, .int .i64 ya, .int .i64 xb, .int .i64 yb] 23)) := (Below.refl _ _).alloc (Nat.le_refl _) _
      exact hK _ _ _ (hI.call hb) (Step.call hI hb) (lit_pts hI 2 [xa, ya, xb, yb])
    · intro vs g w2 hI hF hR K hK
      simp only [Facts, fill, Act.put, z1, z2, z3, z4, z5, Nat.reduceAdd] at hF hR hK ⊢
      obtain ⟨r2, -⟩ := hR
      generalize vs 2 = x2 at *
      go_simp
      refine (gAre2 hI r2 (by first | assumption | (unfold S; decide)) (by first | assumption | (unfold S; decide)) (by first | assumption | (unfold S; decide)) (by first | assumption | (unfold S; decide)) HA.out).mono ?_
      rintro e w3 ⟨v3, rfl, hv, hb⟩
      exact hK _ _ _ (hI.call hb) (Step.call hI hb) hv
    · intro vs g w2 hI hF hR K hK
      simp only [Facts, fill, Act.put, z1, z2, z3, z4, z5, Nat.reduceAdd] at hF hR hK ⊢
      obtain ⟨r3, -⟩ := hR
      generalize vs 3 = x3 at *
      subst r3
      go_simp
      exact hK _ _ _ hI (Step.refl hI) rfl
  case fin =>
    intro vs g wR1 hI hR
    have r4 := hR 4 (by decide)
    simp only [fill, Act.put, z1, z2, z3, z4, z5] at r4 ⊢
    clear hR
    generalize vs 4 = x4 at *
    have C0_R1_0 := Lib.hid (hI.cell C0_W_0.out (by first | exact HO0 | exact HO1 | assumption))
    have C0_R1_1 := Lib.hid (hI.cell C0_W_1.out (by first | exact HO0 | exact HO1 | assumption))
    have C1_R1_0 := Lib.hid (hI.cell C1_W_0.out (by first | exact HO0 | exact HO1 | assumption))
    have C1_R1_1 := Lib.hid (hI.cell C1_W_1.out (by first | exact HO0 | exact HO1 | assumption))
    have HBX_R1 := Lib.hid (hI.box0 1000 _ 2 (lift_at g0 (w.heap.size + 1 + 1)) HBX.out)
    subst r4
    have hBR1 := hI.below
    have HCR1 := hI.next HOK
    clear hI
    go_upto_region 3 with (fail)
    refine box_plan (c := ⟨w, wR1, (lift g0 (w.heap.size + 1 + 1))⟩) HCR1 (by kernel_rfl) [[], [(12, 0)], [], [(14, 2)], [(13, 1), (15, 3)], [(16, 4)], [(17, 5)], [(17, 5)], [(18, 6)], [(19, 7)]] [(12, 0), (13, 1), (14, 2), (15, 3), (16, 4), (17, 5), (18, 6), (19, 7), (5, 9)] [
        (fun v _ _ => v = .agg #[.int .i64 xa, .int .i64 ya]),
        (fun v _ _ => v = .complex .f64 (floatOfInt .f64 xa) (floatOfInt .f64 ya)),
        (fun v _ _ => v = .agg #[.int .i64 xb, .int .i64 yb]),
        (fun v _ _ => v = .complex .f64 (floatOfInt .f64 xb) (floatOfInt .f64 yb)),
        CxI (xa * xb - ya * yb) (xa * yb + ya * xb),
        (fun v _ _ => v = .tuple #[.agg #[.int .i64 (xa * xb - ya * yb), .int .i64 (xa * yb + ya * xb)], .int .i64 0]),
        (fun v _ _ => v = .agg #[.int .i64 (xa * xb - ya * yb), .int .i64 (xa * yb + ya * xb)]),
        (fun v _ _ => v = .int .i64 0),
        (fun _ g w => BoxR 1000 (fun v _ _ => v = .agg #[.int .i64 (xa * xb - ya * yb), .int .i64 (xa * yb + ya * xb)]) g w),
        (fun v _ _ => v = .int .i64 0)
      ] (fun i => match i with | 1000 => some 8 | _ => none) (by kernel_rfl) (by kernel_rfl) ⟨stab_eq, stab_eq, stab_eq, stab_eq, stab_firm (cxI_firm _ _), stab_eq, stab_eq, stab_eq, stab_box (firm_eq _) rfl, stab_eq, trivial⟩ ?steps ?fin
    case steps =>
      refine ⟨?_, ?_, ?_, ?_, ?_, ?_, ?_, ?_, ?_, ?_, trivial⟩
      · intro vs g w2 hI hF hR K hK
        simp only [Facts, fill, Act.put, z1, z2, z3, z4, z5, Nat.reduceAdd] at hF hR hK ⊢
        have k0 := hI.cell C0_R1_0.out (by first | exact HO0 | exact HO1 | assumption)
        have k1 := hI.cell C0_R1_1.out (by first | exact HO0 | exact HO1 | assumption)
        go_simp
        exact hK _ _ _ hI (Step.refl hI) rfl
      · intro vs g w2 hI hF hR K hK
        simp only [Facts, fill, Act.put, z1, z2, z3, z4, z5, Nat.reduceAdd] at hF hR hK ⊢
        obtain ⟨r0, -⟩ := hR
        generalize vs 0 = x0 at *
        subst r0
        go_simp
        refine (gPlComplex hI (by first | assumption | (unfold S; decide) | exact Bd.s (by first | assumption | exact trX_bd bxa bya | exact trY_bd bxa bya | exact Bd.neg (tmod4_bd _)) (by decide)) (by first | assumption | (unfold S; decide) | exact Bd.s (by first | assumption | exact trX_bd bxa bya | exact trY_bd bxa bya | exact Bd.neg (tmod4_bd _)) (by decide))).mono ?_
        rintro e w3 ⟨v3, rfl, hv, hb⟩
        exact hK _ _ _ (hI.call hb) (Step.call hI hb) hv
      · intro vs g w2 hI hF hR K hK
        simp only [Facts, fill, Act.put, z1, z2, z3, z4, z5, Nat.reduceAdd] at hF hR hK ⊢
        have k0 := hI.cell C1_R1_0.out (by first | exact HO0 | exact HO1 | assumption)
        have k1 := hI.cell C1_R1_1.out (by first | exact HO0 | exact HO1 | assumption)
        go_simp
        exact hK _ _ _ hI (Step.refl hI) rfl
      · intro vs g w2 hI hF hR K hK
        simp only [Facts, fill, Act.put, z1, z2, z3, z4, z5, Nat.reduceAdd] at hF hR hK ⊢
        obtain ⟨r2, -⟩ := hR
        generalize vs 2 = x2 at *
        subst r2
        go_simp
        refine (gPlComplex hI (by first | assumption | (unfold S; decide) | exact Bd.s (by first | assumption | exact trX_bd bxa bya | exact trY_bd bxa bya | exact Bd.neg (tmod4_bd _)) (by decide)) (by first | assumption | (unfold S; decide) | exact Bd.s (by first | assumption | exact trX_bd bxa bya | exact trY_bd bxa bya | exact Bd.neg (tmod4_bd _)) (by decide))).mono ?_
        rintro e w3 ⟨v3, rfl, hv, hb⟩
        exact hK _ _ _ (hI.call hb) (Step.call hI hb) hv
      · intro vs g w2 hI hF hR K hK
        simp only [Facts, fill, Act.put, z1, z2, z3, z4, z5, Nat.reduceAdd] at hF hR hK ⊢
        obtain ⟨r1, r3, -⟩ := hR
        generalize vs 1 = x1, vs 3 = x3 at *
        subst r1 r3
        obtain ⟨zr, zi, ez, fr, fi⟩ := cxMul (fiB bxa (by decide)) (fiB bya (by decide)) (fiB bxb (by decide)) (fiB byb (by decide)) bxa bya bxb byb (by decide)
        have hz := fun w => run_complex_mul (P := Try.prog) w 42 (floatOfInt .f64 xa) (floatOfInt .f64 ya) (floatOfInt .f64 xb) (floatOfInt .f64 yb) zr zi ez
        go_simp
        exact hK _ _ _ hI (Step.refl hI) ⟨_, _, rfl, fr, fi⟩
      · intro vs g w2 hI hF hR K hK
        simp only [Facts, fill, Act.put, z1, z2, z3, z4, z5, Nat.reduceAdd] at hF hR hK ⊢
        obtain ⟨r4, -⟩ := hR
        generalize vs 4 = x4 at *
        go_simp
        refine (gPlPointC hI r4 (Bd.le (Bd.sub (Bd.mul bxa bxb) (Bd.mul bya byb)) (by decide)) (Bd.le (Bd.add (Bd.mul bxa byb) (Bd.mul bya bxb)) (by decide))).mono ?_
        rintro e w3 ⟨v3, rfl, hv, hb⟩
        exact hK _ _ _ (hI.call hb) (Step.call hI hb) hv
      · intro vs g w2 hI hF hR K hK
        simp only [Facts, fill, Act.put, z1, z2, z3, z4, z5, Nat.reduceAdd] at hF hR hK ⊢
        obtain ⟨r5, -⟩ := hR
        generalize vs 5 = x5 at *
        subst r5
        go_simp
        exact hK _ _ _ hI (Step.refl hI) rfl
      · intro vs g w2 hI hF hR K hK
        simp only [Facts, fill, Act.put, z1, z2, z3, z4, z5, Nat.reduceAdd] at hF hR hK ⊢
        obtain ⟨r5, -⟩ := hR
        generalize vs 5 = x5 at *
        subst r5
        go_simp
        exact hK _ _ _ hI (Step.refl hI) rfl
      · intro vs g w2 hI hF hR K hK
        simp only [Facts, fill, Act.put, z1, z2, z3, z4, z5, Nat.reduceAdd] at hF hR hK ⊢
        obtain ⟨r6, -⟩ := hR
        generalize vs 6 = x6 at *
        subst r6
        have hk := hI.keep0 1000 _ (lift_at g0 (w.heap.size + 1 + 1))
        have hbx := hI.box0 1000 _ 2 (lift_at g0 (w.heap.size + 1 + 1)) HBX_R1.out
        obtain ⟨⟨u0, k0⟩, f0⟩ := hbx 0 (by decide)
        obtain ⟨⟨u1, k1⟩, f1⟩ := hbx 1 (by decide)
        go_simp
        have ht := (((Touch.refl w2 (w.heap.size + 1 + 1)).set 0 (.int .i64 (xa * xb - ya * yb))).set 1 (.int .i64 (xa * yb + ya * xb)))
        exact hK undef _ _ (hI.store (by decide) hk ht) (Step.store hI rfl hk ht) ⟨(w.heap.size + 1 + 1), .agg #[.int .i64 (xa * xb - ya * yb), .int .i64 (xa * yb + ya * xb)], hk, by rw [ht.size]; exact hI.lt _ _ hk, cells2 k0 k1 (.int .i64 (xa * xb - ya * yb)) (.int .i64 (xa * yb + ya * xb)), rfl⟩
      · intro vs g w2 hI hF hR K hK
        simp only [Facts, fill, Act.put, z1, z2, z3, z4, z5, Nat.reduceAdd] at hF hR hK ⊢
        obtain ⟨r7, -⟩ := hR
        generalize vs 7 = x7 at *
        subst r7
        go_simp
        exact hK _ _ _ hI (Step.refl hI) rfl
    case fin =>
      intro vs g wR3 hI hR
      have r8 := hR 8 (by decide)
      have r9 := hR 9 (by decide)
      simp only [fill, Act.put, z1, z2, z3, z4, z5] at r8 r9 ⊢
      clear hR
      generalize vs 8 = x8 at *
      generalize vs 9 = x9 at *
      have C0_R3_0 := Lib.hid (hI.cell C0_R1_0.out (by first | exact HO0 | exact HO1 | assumption))
      have C0_R3_1 := Lib.hid (hI.cell C0_R1_1.out (by first | exact HO0 | exact HO1 | assumption))
      have C1_R3_0 := Lib.hid (hI.cell C1_R1_0.out (by first | exact HO0 | exact HO1 | assumption))
      have C1_R3_1 := Lib.hid (hI.cell C1_R1_1.out (by first | exact HO0 | exact HO1 | assumption))
      have hkR34 := hI.keep0 1000 _ (lift_at g0 (w.heap.size + 1 + 1))
      obtain ⟨qR34, uR34, hqR34, -, hcR34, hrR34⟩ := r8
      rw [hkR34] at hqR34
      injection hqR34 with hqR34
      subst hqR34
      subst hrR34
      have CR34_R3_0 := Lib.hid (hcR34 0 _ rfl)
      have CR34_R3_1 := Lib.hid (hcR34 1 _ rfl)
      clear hcR34 hkR34
      subst r9
      have hBR3 := hI.below
      have HCR3 := hI.next HCR1
      clear hI
      go_wp2
      exact bodyPost_ret (v := .tuple #[.agg #[.int .i64 (xa * xb - ya * yb), .int .i64 (xa * yb + ya * xb)], .int .i64 0]) (by simp [results, Try.results14, go_sem, orS, CR34_R3_0.out, CR34_R3_1.out]) rfl ⟨_, rfl, rfl, hBR3⟩
set_option maxRecDepth 100000 in
set_option maxHeartbeats 4000000 in
theorem gPlProductNo {c0 : Ctx} {g0 : Gh} {w : World} {xa ya xb yb : Int} (hI0 : RInv c0 g0 w) (sxa : S xa) (sya : S ya) (sxb : S xb) (syb : S yb) (h : (smallB xa ya && smallB xb yb) = false) :
    Calls Try.prog 14 #[.agg #[.int .i64 xa, .int .i64 ya], .agg #[.int .i64 xb, .int .i64 yb]] w (Gives (fun v _ _ => v = .tuple #[.agg #[.int .i64 0, .int .i64 0], .int .i64 3]) g0 w) := by
  have HA := Lib.hid h
  clear h
  obtain ⟨W, hW⟩ : ∃ W, W = ((w.alloc (.cells #[.int .i64 xa, .int .i64 ya] 23)).alloc (.cells #[.int .i64 xb, .int .i64 yb] 23)).alloc (.cells #[.int .i64 0, .int .i64 0] 23) := ⟨_, rfl⟩
  have hb0 : Below w.heap.size w W := by rw [hW]; exact ((((Below.refl _ _).alloc (Nat.le_refl _) _).alloc (by simp) _).alloc (by simp; omega) _)
  have HOK := Ctx.ok_lift (k := w.heap.size + 1 + 1) hI0 hb0 (by omega) (by rw [hW]; simp; try omega)
  have HBX := Lib.hid (show HasBox W (w.heap.size + 1 + 1) 2 by rw [hW]; have := box2' ((w.alloc (.cells #[.int .i64 xa, .int .i64 ya] 23)).alloc (.cells #[.int .i64 xb, .int .i64 yb] 23)) (.int .i64 0) (.int .i64 0) 23; simpa using this)
  have C0_W_0 := Lib.hid (show W.cell? ⟨w.heap.size, 0, none⟩ = some (.int .i64 xa) by rw [hW]; simp [go_sem])
  have C0_W_1 := Lib.hid (show W.cell? ⟨w.heap.size, 1, none⟩ = some (.int .i64 ya) by rw [hW]; simp [go_sem])
  have HO0 : Off (lift g0 (w.heap.size + 1 + 1)) (w.heap.size) := lift_off (hI0.offs _ (by omega)) (by omega)
  have C1_W_0 := Lib.hid (show W.cell? ⟨w.heap.size + 1, 0, none⟩ = some (.int .i64 xb) by rw [hW]; simp [go_sem])
  have C1_W_1 := Lib.hid (show W.cell? ⟨w.heap.size + 1, 1, none⟩ = some (.int .i64 yb) by rw [hW]; simp [go_sem])
  have HO1 : Off (lift g0 (w.heap.size + 1 + 1)) (w.heap.size + 1) := lift_off (hI0.offs _ (by omega)) (by omega)
  have HW := Lib.hid hW
  clear hW
  go_enter Try.func14, Try.ntmps14
  go_upto_region 1 with (fail)
  rw [← HW.out]
  refine box_plan0 (c := ⟨w, W, (lift g0 (w.heap.size + 1 + 1))⟩) HOK [[], [], [(6, 0), (7, 1)], [(8, 2)], [(9, 3)]] [(6, 0), (7, 1), (8, 2), (9, 3), (10, 4)] [
      (fun v _ _ => v = .agg #[.int .i64 xa, .int .i64 ya]),
      (fun v _ _ => v = .agg #[.int .i64 xb, .int .i64 yb]),
      PtsR 2 ([xa, ya, xb, yb]),
      (fun v _ _ => v = .bool false),
      (fun v _ _ => v = .bool true)
    ] (fun _ => none) (by kernel_rfl) (by kernel_rfl) ⟨stab_eq, stab_eq, stab_firm (ptsR_firm _ _), stab_eq, stab_eq, trivial⟩ ?steps ?fin
  case steps =>
    refine ⟨?_, ?_, ?_, ?_, ?_, trivial⟩
    · intro vs g w2 hI hF hR K hK
      simp only [Facts, fill, Act.put, z1, z2, z3, z4, z5, Nat.reduceAdd] at hF hR hK ⊢
      have k0 := hI.cell C0_W_0.out (by first | exact HO0 | exact HO1 | assumption)
      have k1 := hI.cell C0_W_1.out (by first | exact HO0 | exact HO1 | assumption)
      go_simp
      exact hK _ _ _ hI (Step.refl hI) rfl
    · intro vs g w2 hI hF hR K hK
      simp only [Facts, fill, Act.put, z1, z2, z3, z4, z5, Nat.reduceAdd] at hF hR hK ⊢
      have k0 := hI.cell C1_W_0.out (by first | exact HO0 | exact HO1 | assumption)
      have k1 := hI.cell C1_W_1.out (by first | exact HO0 | exact HO1 | assumption)
      go_simp
      exact hK _ _ _ hI (Step.refl hI) rfl
    · intro vs g w2 hI hF hR K hK
      simp only [Facts, fill, Act.put, z1, z2, z3, z4, z5, Nat.reduceAdd] at hF hR hK ⊢
      obtain ⟨r0, r1, -⟩ := hR
      generalize vs 0 = x0, vs 1 = x1 at *
      subst r0 r1
      go_simp
      have hb : Below w2.heap.size w2 (w2.alloc (.cells #[.int .i64 xa, .int .i64 ya, .int .i64 xb, .int .i64 yb] 23)) := (Below.refl _ _).alloc (Nat.le_refl _) _
      exact hK _ _ _ (hI.call hb) (Step.call hI hb) (lit_pts hI 2 [xa, ya, xb, yb])
    · intro vs g w2 hI hF hR K hK
      simp only [Facts, fill, Act.put, z1, z2, z3, z4, z5, Nat.reduceAdd] at hF hR hK ⊢
      obtain ⟨r2, -⟩ := hR
      generalize vs 2 = x2 at *
      go_simp
      refine (gAre2 hI r2 (by first | assumption | (unfold S; decide)) (by first | assumption | (unfold S; decide)) (by first | assumption | (unfold S; decide)) (by first | assumption | (unfold S; decide)) HA.out).mono ?_
      rintro e w3 ⟨v3, rfl, hv, hb⟩
      exact hK _ _ _ (hI.call hb) (Step.call hI hb) hv
    · intro vs g w2 hI hF hR K hK
      simp only [Facts, fill, Act.put, z1, z2, z3, z4, z5, Nat.reduceAdd] at hF hR hK ⊢
      obtain ⟨r3, -⟩ := hR
      generalize vs 3 = x3 at *
      subst r3
      go_simp
      exact hK _ _ _ hI (Step.refl hI) rfl
  case fin =>
    intro vs g wR1 hI hR
    have r4 := hR 4 (by decide)
    simp only [fill, Act.put, z1, z2, z3, z4, z5] at r4 ⊢
    clear hR
    generalize vs 4 = x4 at *
    have C0_R1_0 := Lib.hid (hI.cell C0_W_0.out (by first | exact HO0 | exact HO1 | assumption))
    have C0_R1_1 := Lib.hid (hI.cell C0_W_1.out (by first | exact HO0 | exact HO1 | assumption))
    have C1_R1_0 := Lib.hid (hI.cell C1_W_0.out (by first | exact HO0 | exact HO1 | assumption))
    have C1_R1_1 := Lib.hid (hI.cell C1_W_1.out (by first | exact HO0 | exact HO1 | assumption))
    have HBX_R1 := Lib.hid (hI.box0 1000 _ 2 (lift_at g0 (w.heap.size + 1 + 1)) HBX.out)
    subst r4
    have hBR1 := hI.below
    have HCR1 := hI.next HOK
    clear hI
    go_upto_region 2 with (fail)
    refine box_plan0 (c := ⟨w, wR1, (lift g0 (w.heap.size + 1 + 1))⟩) HCR1 [[], [(11, 0)], []] [(11, 0), (5, 2)] [
        (fun v _ _ => v = .agg #[.int .i64 0, .int .i64 0]),
        (fun _ g w => BoxR 1000 (fun v _ _ => v = .agg #[.int .i64 0, .int .i64 0]) g w),
        (fun v _ _ => v = .int .i64 3)
      ] (fun i => match i with | 1000 => some 1 | _ => none) (by kernel_rfl) (by kernel_rfl) ⟨stab_eq, stab_box (firm_eq _) rfl, stab_eq, trivial⟩ ?steps ?fin
    case steps =>
      refine ⟨?_, ?_, ?_, trivial⟩
      · intro vs g w2 hI hF hR K hK
        simp only [Facts, fill, Act.put, z1, z2, z3, z4, z5, Nat.reduceAdd] at hF hR hK ⊢
        go_simp
        exact hK _ _ _ hI (Step.refl hI) rfl
      · intro vs g w2 hI hF hR K hK
        simp only [Facts, fill, Act.put, z1, z2, z3, z4, z5, Nat.reduceAdd] at hF hR hK ⊢
        obtain ⟨r0, -⟩ := hR
        generalize vs 0 = x0 at *
        subst r0
        have hk := hI.keep0 1000 _ (lift_at g0 (w.heap.size + 1 + 1))
        have hbx := hI.box0 1000 _ 2 (lift_at g0 (w.heap.size + 1 + 1)) HBX_R1.out
        obtain ⟨⟨u0, k0⟩, f0⟩ := hbx 0 (by decide)
        obtain ⟨⟨u1, k1⟩, f1⟩ := hbx 1 (by decide)
        go_simp
        have ht := (((Touch.refl w2 (w.heap.size + 1 + 1)).set 0 (.int .i64 0)).set 1 (.int .i64 0))
        exact hK undef _ _ (hI.store (by decide) hk ht) (Step.store hI rfl hk ht) ⟨(w.heap.size + 1 + 1), .agg #[.int .i64 0, .int .i64 0], hk, by rw [ht.size]; exact hI.lt _ _ hk, cells2 k0 k1 (.int .i64 0) (.int .i64 0), rfl⟩
      · intro vs g w2 hI hF hR K hK
        simp only [Facts, fill, Act.put, z1, z2, z3, z4, z5, Nat.reduceAdd] at hF hR hK ⊢
        go_simp
        exact hK _ _ _ hI (Step.refl hI) rfl
    case fin =>
      intro vs g wR2 hI hR
      have r1 := hR 1 (by decide)
      have r2 := hR 2 (by decide)
      simp only [fill, Act.put, z1, z2, z3, z4, z5] at r1 r2 ⊢
      clear hR
      generalize vs 1 = x1 at *
      generalize vs 2 = x2 at *
      have C0_R2_0 := Lib.hid (hI.cell C0_R1_0.out (by first | exact HO0 | exact HO1 | assumption))
      have C0_R2_1 := Lib.hid (hI.cell C0_R1_1.out (by first | exact HO0 | exact HO1 | assumption))
      have C1_R2_0 := Lib.hid (hI.cell C1_R1_0.out (by first | exact HO0 | exact HO1 | assumption))
      have C1_R2_1 := Lib.hid (hI.cell C1_R1_1.out (by first | exact HO0 | exact HO1 | assumption))
      have hkR24 := hI.keep0 1000 _ (lift_at g0 (w.heap.size + 1 + 1))
      obtain ⟨qR24, uR24, hqR24, -, hcR24, hrR24⟩ := r1
      rw [hkR24] at hqR24
      injection hqR24 with hqR24
      subst hqR24
      subst hrR24
      have CR24_R2_0 := Lib.hid (hcR24 0 _ rfl)
      have CR24_R2_1 := Lib.hid (hcR24 1 _ rfl)
      clear hcR24 hkR24
      subst r2
      have hBR2 := hI.below
      have HCR2 := hI.next HCR1
      clear hI
      go_wp2
      exact bodyPost_ret (v := .tuple #[.agg #[.int .i64 0, .int .i64 0], .int .i64 3]) (by simp [results, Try.results14, go_sem, orS, CR24_R2_0.out, CR24_R2_1.out]) rfl ⟨_, rfl, rfl, hBR2⟩
end Go.Proofs.Ythdboeegngcfeaa
