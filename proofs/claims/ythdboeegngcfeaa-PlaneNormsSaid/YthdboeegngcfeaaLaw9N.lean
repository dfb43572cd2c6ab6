/-
  Law PlaneNorms. (Written by law9.py.)
-/
import Derived.Test.YthdboeegngcfeaaLaw9a
import Derived.Deep.RegionLaw
import Derived.BigQuiet
import Derived.Deep.DeepCutAuto
import Derived.Deep.CutRange
namespace Go.Proofs.Ythdboeegngcfeaa
open Go.RowKit
set_option maxRecDepth 100000
set_option linter.unusedVariables false
set_option linter.unusedSimpArgs false

set_option maxRecDepth 100000 in
set_option maxHeartbeats 8000000 in
theorem law9N (xu yu xv yv tk : Int) (w : World) (sk : S tk) :
    Calls Try.prog 8 #[.agg #[.int .i64 xu, .int .i64 yu], .agg #[.int .i64 xv, .int .i64 yv], .int .i64 tk] w fun e w' => e = .returned (.bool true) ∧ Below w.heap.size w w' := by
  obtain ⟨xa, hxa⟩ : ∃ xa, xa = xu.tmod 2049 := ⟨_, rfl⟩
  have bxa : Bd 2048 xa := by rw [hxa]; exact tmod2049_bd _
  have exa : IntKind.i64.wrap (xu.tmod 2049) = xa := by rw [← hxa]; exact bxa.wrap (by decide)
  have fxa : xu.tmod 2049 = xa := hxa.symm
  obtain ⟨ya, hya⟩ : ∃ ya, ya = yu.tmod 2049 := ⟨_, rfl⟩
  have bya : Bd 2048 ya := by rw [hya]; exact tmod2049_bd _
  have eya : IntKind.i64.wrap (yu.tmod 2049) = ya := by rw [← hya]; exact bya.wrap (by decide)
  have fya : yu.tmod 2049 = ya := hya.symm
  obtain ⟨xb, hxb⟩ : ∃ xb, xb = xv.tmod 2049 := ⟨_, rfl⟩
  have bxb : Bd 2048 xb := by rw [hxb]; exact tmod2049_bd _
  have exb : IntKind.i64.wrap (xv.tmod 2049) = xb := by rw [← hxb]; exact bxb.wrap (by decide)
  have fxb : xv.tmod 2049 = xb := hxb.symm
  obtain ⟨yb, hyb⟩ : ∃ yb, yb = yv.tmod 2049 := ⟨_, rfl⟩
  have byb : Bd 2048 yb := by rw [hyb]; exact tmod2049_bd _
  have eyb : IntKind.i64.wrap (yv.tmod 2049) = yb := by rw [← hyb]; exact byb.wrap (by decide)
  have fyb : yv.tmod 2049 = yb := hyb.symm
  clear hxa hya hxb hyb
  go_enter Try.func8, Try.ntmps8
  go_upto_region 1 with (fail)
  go_cut [] from 19 to 34 (fun wx => ∃ nq, wx = ((w.alloc (.cells #[.int .i64 xa, .int .i64 ya] 23)).alloc (.cells #[.int .i64 xb, .int .i64 yb] 23)).drewN nq)
  case first =>
    go_region_law (fail)
    all_goals go_wp2
    all_goals go_meet
    all_goals exact ⟨1, rfl⟩
  case rest =>
    obtain ⟨nq, rfl⟩ := hcut
    obtain ⟨W, hW⟩ : ∃ W, W = ((w.alloc (.cells #[.int .i64 xa, .int .i64 ya] 23)).alloc (.cells #[.int .i64 xb, .int .i64 yb] 23)).drewN nq := ⟨_, rfl⟩
    have hb0 : Below w.heap.size w W := by rw [hW]; exact below_drewN' (((Below.refl _ _).alloc (Nat.le_refl _) _).alloc (by simp) _) nq
    have Ca_W_0 := Lib.hid (show W.cell? ⟨w.heap.size, 0, none⟩ = some (.int .i64 xa) by rw [hW]; simp [go_sem])
    have Ca_W_1 := Lib.hid (show W.cell? ⟨w.heap.size, 1, none⟩ = some (.int .i64 ya) by rw [hW]; simp [go_sem])
    have Cb_W_0 := Lib.hid (show W.cell? ⟨w.heap.size + 1, 0, none⟩ = some (.int .i64 xb) by rw [hW]; simp [go_sem])
    have Cb_W_1 := Lib.hid (show W.cell? ⟨w.heap.size + 1, 1, none⟩ = some (.int .i64 yb) by rw [hW]; simp [go_sem])
    have HW := Lib.hid hW
    clear hW exa eya exb eyb fxa fya fxb fyb
    go_upto_region 2 with (fail)
    rw [← HW.out]
    refine box_plan0 (c := ⟨w, W, (fun _ => none)⟩) (Ctx.ok_none hb0) [[], [], [(36, 0), (37, 1)], [(38, 2)], [(35, 3)], [(35, 3)], [], [(7, 6), (39, 4)], [(40, 5)]] [(36, 0), (37, 1), (38, 2), (35, 3), (39, 4), (40, 5), (7, 6), (8, 8)] [
        (fun v _ _ => v = .agg #[.int .i64 xa, .int .i64 ya]),
        (fun v _ _ => v = .agg #[.int .i64 xb, .int .i64 yb]),
        (fun v _ _ => v = .tuple #[.agg #[.int .i64 (xa * xb - ya * yb), .int .i64 (xa * yb + ya * xb)], .int .i64 0]),
        (fun v _ _ => v = .tuple #[.agg #[.int .i64 (xa * xb - ya * yb), .int .i64 (xa * yb + ya * xb)], .int .i64 0]),
        (fun v _ _ => v = .agg #[.int .i64 (xa * xb - ya * yb), .int .i64 (xa * yb + ya * xb)]),
        (fun v _ _ => v = .int .i64 0),
        PtrR 6 2,
        (fun _ g w => BoxR 6 (fun v _ _ => v = .agg #[.int .i64 (xa * xb - ya * yb), .int .i64 (xa * yb + ya * xb)]) g w),
        (fun v _ _ => v = .int .i64 0)
      ] (fun i => match i with | 6 => some 7 | _ => none) (by kernel_rfl) (by kernel_rfl) ⟨stab_eq, stab_eq, stab_eq, stab_eq, stab_eq, stab_eq, stab_ptr, stab_box (firm_eq _) rfl, stab_eq, trivial⟩ ?steps ?fin
    case steps =>
      refine ⟨?_, ?_, ?_, ?_, ?_, ?_, ?_, ?_, ?_, trivial⟩
      · intro vs g w2 hI hF hR K hK
        simp only [Facts, fill, Act.put, z1, z2, z3, z4, z5, Nat.reduceAdd] at hF hR hK ⊢
        have k0 := hI.cell Ca_W_0.out (fun _ h => by cases h)
        have k1 := hI.cell Ca_W_1.out (fun _ h => by cases h)
        go_simp
        exact hK _ _ _ hI (Step.refl hI) rfl
      · intro vs g w2 hI hF hR K hK
        simp only [Facts, fill, Act.put, z1, z2, z3, z4, z5, Nat.reduceAdd] at hF hR hK ⊢
        have k0 := hI.cell Cb_W_0.out (fun _ h => by cases h)
        have k1 := hI.cell Cb_W_1.out (fun _ h => by cases h)
        go_simp
        exact hK _ _ _ hI (Step.refl hI) rfl
      · intro vs g w2 hI hF hR K hK
        simp only [Facts, fill, Act.put, z1, z2, z3, z4, z5, Nat.reduceAdd] at hF hR hK ⊢
        obtain ⟨r0, r1, -⟩ := hR
        generalize vs 0 = x0, vs 1 = x1 at *
        subst r0 r1
        go_simp
        refine (gPlProduct hI (small_of (Bd.le bxa (by decide)) (Bd.le bya (by decide))) (small_of (Bd.le bxb (by decide)) (Bd.le byb (by decide)))).mono ?_
        rintro e w3 ⟨v3, rfl, hv, hb⟩
        exact hK _ _ _ (hI.call hb) (Step.call hI hb) hv
      · intro vs g w2 hI hF hR K hK
        simp only [Facts, fill, Act.put, z1, z2, z3, z4, z5, Nat.reduceAdd] at hF hR hK ⊢
        obtain ⟨r2, -⟩ := hR
        generalize vs 2 = x2 at *
        subst r2
        go_simp
        exact hK _ _ _ hI (Step.refl hI) rfl
      · intro vs g w2 hI hF hR K hK
        simp only [Facts, fill, Act.put, z1, z2, z3, z4, z5, Nat.reduceAdd] at hF hR hK ⊢
        obtain ⟨r3, -⟩ := hR
        generalize vs 3 = x3 at *
        subst r3
        go_simp
        exact hK _ _ _ hI (Step.refl hI) rfl
      · intro vs g w2 hI hF hR K hK
        simp only [Facts, fill, Act.put, z1, z2, z3, z4, z5, Nat.reduceAdd] at hF hR hK ⊢
        obtain ⟨r3, -⟩ := hR
        generalize vs 3 = x3 at *
        subst r3
        go_simp
        exact hK _ _ _ hI (Step.refl hI) rfl
      · intro vs g w2 hI hF hR K hK
        simp only [Facts, fill, Act.put, z1, z2, z3, z4, z5, Nat.reduceAdd] at hF hR hK ⊢
        go_simp
        exact hK _ _ _ (hI.alloc _ (hF (by decide)) _) (Step.alloc hI (hF (by decide)) _) ⟨_, rfl, more_at _ _ _, box2' _ _ _ _⟩
      · intro vs g w2 hI hF hR K hK
        simp only [Facts, fill, Act.put, z1, z2, z3, z4, z5, Nat.reduceAdd] at hF hR hK ⊢
        obtain ⟨r6, r4, -⟩ := hR
        generalize vs 6 = x6, vs 4 = x4 at *
        subst r4
        obtain ⟨k, rfl, hk, hbx⟩ := r6
        obtain ⟨⟨u0, k0⟩, f0⟩ := hbx 0 (by decide)
        obtain ⟨⟨u1, k1⟩, f1⟩ := hbx 1 (by decide)
        go_simp
        have ht := (((Touch.refl w2 k).set 0 (.int .i64 (xa * xb - ya * yb))).set 1 (.int .i64 (xa * yb + ya * xb)))
        exact hK undef _ _ (hI.store (by decide) hk ht) (Step.store hI rfl hk ht) ⟨k, .agg #[.int .i64 (xa * xb - ya * yb), .int .i64 (xa * yb + ya * xb)], hk, by rw [ht.size]; exact hI.lt _ _ hk, cells2 k0 k1 (.int .i64 (xa * xb - ya * yb)) (.int .i64 (xa * yb + ya * xb)), rfl⟩
      · intro vs g w2 hI hF hR K hK
        simp only [Facts, fill, Act.put, z1, z2, z3, z4, z5, Nat.reduceAdd] at hF hR hK ⊢
        obtain ⟨r5, -⟩ := hR
        generalize vs 5 = x5 at *
        subst r5
        go_simp
        exact hK _ _ _ hI (Step.refl hI) rfl
    case fin =>
      intro vs g wR2 hI hR
      have r6 := hR 6 (by decide)
      have r7 := hR 7 (by decide)
      have r8 := hR 8 (by decide)
      simp only [fill, Act.put, z1, z2, z3, z4, z5] at r6 r7 r8 ⊢
      clear hR
      generalize vs 6 = x6 at *
      generalize vs 7 = x7 at *
      generalize vs 8 = x8 at *
      have Ca_R2_0 := Lib.hid (hI.cell Ca_W_0.out (fun _ h => by cases h))
      have Ca_R2_1 := Lib.hid (hI.cell Ca_W_1.out (fun _ h => by cases h))
      have Cb_R2_0 := Lib.hid (hI.cell Cb_W_0.out (fun _ h => by cases h))
      have Cb_R2_1 := Lib.hid (hI.cell Cb_W_1.out (fun _ h => by cases h))
      obtain ⟨pR27, rfl, hkR27, -⟩ := r6
      obtain ⟨qR27, uR27, hqR27, -, hcR27, hrR27⟩ := r7
      rw [hkR27] at hqR27
      injection hqR27 with hqR27
      subst hqR27
      subst hrR27
      have CR27_R2_0 := Lib.hid (hcR27 0 _ rfl)
      have CR27_R2_1 := Lib.hid (hcR27 1 _ rfl)
      clear hcR27 hkR27
      subst r8
      have hBR2 := hI.below
      have HCR2 := hI.next (Ctx.ok_none hb0)
      clear hI
      go_upto_region 3 with (fail)
      refine box_plan0 (c := ⟨w, wR2, (fun _ => none)⟩) HCR2 [[], [(42, 0)], [(43, 1)], [(41, 2)], [(41, 2)], [(44, 3)], [(45, 4)]] [(42, 0), (43, 1), (41, 2), (44, 3), (45, 4), (9, 5), (10, 6)] [
          (fun v _ _ => v = .agg #[.int .i64 xa, .int .i64 ya]),
          NrR (xa * xa + ya * ya),
          NrR (xa * xa + ya * ya),
          FlI (xa * xa + ya * ya),
          (fun v _ _ => v = .int .i64 0),
          FlI (xa * xa + ya * ya),
          (fun v _ _ => v = .int .i64 0)
        ] (fun _ => none) (by kernel_rfl) (by kernel_rfl) ⟨stab_eq, stab_firm (nrR_firm _), stab_firm (nrR_firm _), stab_firm (flI_firm _), stab_eq, stab_firm (flI_firm _), stab_eq, trivial⟩ ?steps ?fin
      case steps =>
        refine ⟨?_, ?_, ?_, ?_, ?_, ?_, ?_, trivial⟩
        · intro vs g w2 hI hF hR K hK
          simp only [Facts, fill, Act.put, z1, z2, z3, z4, z5, Nat.reduceAdd] at hF hR hK ⊢
          have k0 := hI.cell Ca_R2_0.out (fun _ h => by cases h)
          have k1 := hI.cell Ca_R2_1.out (fun _ h => by cases h)
          go_simp
          exact hK _ _ _ hI (Step.refl hI) rfl
        · intro vs g w2 hI hF hR K hK
          simp only [Facts, fill, Act.put, z1, z2, z3, z4, z5, Nat.reduceAdd] at hF hR hK ⊢
          obtain ⟨r0, -⟩ := hR
          generalize vs 0 = x0 at *
          subst r0
          go_simp
          refine (gPlNorm hI (small_of (Bd.le bxa (by decide)) (Bd.le bya (by decide)))).mono ?_
          rintro e w3 ⟨v3, rfl, hv, hb⟩
          exact hK _ _ _ (hI.call hb) (Step.call hI hb) hv
        · intro vs g w2 hI hF hR K hK
          simp only [Facts, fill, Act.put, z1, z2, z3, z4, z5, Nat.reduceAdd] at hF hR hK ⊢
          obtain ⟨r1, -⟩ := hR
          generalize vs 1 = x1 at *
          go_simp
          exact hK _ _ _ hI (Step.refl hI) r1
        · intro vs g w2 hI hF hR K hK
          simp only [Facts, fill, Act.put, z1, z2, z3, z4, z5, Nat.reduceAdd] at hF hR hK ⊢
          obtain ⟨r2, -⟩ := hR
          generalize vs 2 = x2 at *
          obtain ⟨rr3, rfl, hr3⟩ := r2
          go_simp
          exact hK _ _ _ hI (Step.refl hI) ⟨_, rfl, hr3⟩
        · intro vs g w2 hI hF hR K hK
          simp only [Facts, fill, Act.put, z1, z2, z3, z4, z5, Nat.reduceAdd] at hF hR hK ⊢
          obtain ⟨r2, -⟩ := hR
          generalize vs 2 = x2 at *
          obtain ⟨rr4, rfl, hr4⟩ := r2
          go_simp
          exact hK _ _ _ hI (Step.refl hI) rfl
        · intro vs g w2 hI hF hR K hK
          simp only [Facts, fill, Act.put, z1, z2, z3, z4, z5, Nat.reduceAdd] at hF hR hK ⊢
          obtain ⟨r3, -⟩ := hR
          generalize vs 3 = x3 at *
          go_simp
          exact hK _ _ _ hI (Step.refl hI) r3
        · intro vs g w2 hI hF hR K hK
          simp only [Facts, fill, Act.put, z1, z2, z3, z4, z5, Nat.reduceAdd] at hF hR hK ⊢
          obtain ⟨r4, -⟩ := hR
          generalize vs 4 = x4 at *
          subst r4
          go_simp
          exact hK _ _ _ hI (Step.refl hI) rfl
      case fin =>
        intro vs g wR3 hI hR
        have r5 := hR 5 (by decide)
        have r6 := hR 6 (by decide)
        simp only [fill, Act.put, z1, z2, z3, z4, z5] at r5 r6 ⊢
        clear hR
        generalize vs 5 = x5 at *
        generalize vs 6 = x6 at *
        have Ca_R3_0 := Lib.hid (hI.cell Ca_R2_0.out (fun _ h => by cases h))
        have Ca_R3_1 := Lib.hid (hI.cell Ca_R2_1.out (fun _ h => by cases h))
        have Cb_R3_0 := Lib.hid (hI.cell Cb_R2_0.out (fun _ h => by cases h))
        have Cb_R3_1 := Lib.hid (hI.cell Cb_R2_1.out (fun _ h => by cases h))
        have CR27_R3_0 := Lib.hid (hI.cell CR27_R2_0.out (fun _ h => by cases h))
        have CR27_R3_1 := Lib.hid (hI.cell CR27_R2_1.out (fun _ h => by cases h))
        have qfR39 := r5
        obtain ⟨fvR39, rfl, -⟩ := flI_open r5
        have FR39_R3_0 := Lib.hid ((flI_firm _) _ _ _ _ _ qfR39 hI.back)
        clear qfR39
        subst r6
        have hBR3 := hI.below
        have HCR3 := hI.next HCR2
        clear hI
        go_upto_region 4 with (fail)
        refine box_plan0 (c := ⟨w, wR3, (fun _ => none)⟩) HCR3 [[], [(47, 0)], [(48, 1)], [(46, 2)], [(46, 2)], [(49, 3)], [(50, 4)]] [(47, 0), (48, 1), (46, 2), (49, 3), (50, 4), (11, 5), (12, 6)] [
            (fun v _ _ => v = .agg #[.int .i64 xb, .int .i64 yb]),
            NrR (xb * xb + yb * yb),
            NrR (xb * xb + yb * yb),
            FlI (xb * xb + yb * yb),
            (fun v _ _ => v = .int .i64 0),
            FlI (xb * xb + yb * yb),
            (fun v _ _ => v = .int .i64 0)
          ] (fun _ => none) (by kernel_rfl) (by kernel_rfl) ⟨stab_eq, stab_firm (nrR_firm _), stab_firm (nrR_firm _), stab_firm (flI_firm _), stab_eq, stab_firm (flI_firm _), stab_eq, trivial⟩ ?steps ?fin
        case steps =>
          refine ⟨?_, ?_, ?_, ?_, ?_, ?_, ?_, trivial⟩
          · intro vs g w2 hI hF hR K hK
            simp only [Facts, fill, Act.put, z1, z2, z3, z4, z5, Nat.reduceAdd] at hF hR hK ⊢
            have k0 := hI.cell Cb_R3_0.out (fun _ h => by cases h)
            have k1 := hI.cell Cb_R3_1.out (fun _ h => by cases h)
            go_simp
            exact hK _ _ _ hI (Step.refl hI) rfl
          · intro vs g w2 hI hF hR K hK
            simp only [Facts, fill, Act.put, z1, z2, z3, z4, z5, Nat.reduceAdd] at hF hR hK ⊢
            obtain ⟨r0, -⟩ := hR
            generalize vs 0 = x0 at *
            subst r0
            go_simp
            refine (gPlNorm hI (small_of (Bd.le bxb (by decide)) (Bd.le byb (by decide)))).mono ?_
            rintro e w3 ⟨v3, rfl, hv, hb⟩
            exact hK _ _ _ (hI.call hb) (Step.call hI hb) hv
          · intro vs g w2 hI hF hR K hK
            simp only [Facts, fill, Act.put, z1, z2, z3, z4, z5, Nat.reduceAdd] at hF hR hK ⊢
            obtain ⟨r1, -⟩ := hR
            generalize vs 1 = x1 at *
            go_simp
            exact hK _ _ _ hI (Step.refl hI) r1
          · intro vs g w2 hI hF hR K hK
            simp only [Facts, fill, Act.put, z1, z2, z3, z4, z5, Nat.reduceAdd] at hF hR hK ⊢
            obtain ⟨r2, -⟩ := hR
            generalize vs 2 = x2 at *
            obtain ⟨rr3, rfl, hr3⟩ := r2
            go_simp
            exact hK _ _ _ hI (Step.refl hI) ⟨_, rfl, hr3⟩
          · intro vs g w2 hI hF hR K hK
            simp only [Facts, fill, Act.put, z1, z2, z3, z4, z5, Nat.reduceAdd] at hF hR hK ⊢
            obtain ⟨r2, -⟩ := hR
            generalize vs 2 = x2 at *
            obtain ⟨rr4, rfl, hr4⟩ := r2
            go_simp
            exact hK _ _ _ hI (Step.refl hI) rfl
          · intro vs g w2 hI hF hR K hK
            simp only [Facts, fill, Act.put, z1, z2, z3, z4, z5, Nat.reduceAdd] at hF hR hK ⊢
            obtain ⟨r3, -⟩ := hR
            generalize vs 3 = x3 at *
            go_simp
            exact hK _ _ _ hI (Step.refl hI) r3
          · intro vs g w2 hI hF hR K hK
            simp only [Facts, fill, Act.put, z1, z2, z3, z4, z5, Nat.reduceAdd] at hF hR hK ⊢
            obtain ⟨r4, -⟩ := hR
            generalize vs 4 = x4 at *
            subst r4
            go_simp
            exact hK _ _ _ hI (Step.refl hI) rfl
        case fin =>
          intro vs g wR4 hI hR
          have r5 := hR 5 (by decide)
          have r6 := hR 6 (by decide)
          simp only [fill, Act.put, z1, z2, z3, z4, z5] at r5 r6 ⊢
          clear hR
          generalize vs 5 = x5 at *
          generalize vs 6 = x6 at *
          have Ca_R4_0 := Lib.hid (hI.cell Ca_R3_0.out (fun _ h => by cases h))
          have Ca_R4_1 := Lib.hid (hI.cell Ca_R3_1.out (fun _ h => by cases h))
          have Cb_R4_0 := Lib.hid (hI.cell Cb_R3_0.out (fun _ h => by cases h))
          have Cb_R4_1 := Lib.hid (hI.cell Cb_R3_1.out (fun _ h => by cases h))
          have CR27_R4_0 := Lib.hid (hI.cell CR27_R3_0.out (fun _ h => by cases h))
          have CR27_R4_1 := Lib.hid (hI.cell CR27_R3_1.out (fun _ h => by cases h))
          have FR39_R4_0 := Lib.hid ((flI_firm _) _ _ _ _ _ FR39_R3_0.out hI.carry)
          have qfR411 := r5
          obtain ⟨fvR411, rfl, -⟩ := flI_open r5
          have FR411_R4_0 := Lib.hid ((flI_firm _) _ _ _ _ _ qfR411 hI.back)
          clear qfR411
          subst r6
          have hBR4 := hI.below
          have HCR4 := hI.next HCR3
          clear hI
          go_upto_region 5 with (fail)
          refine box_plan0 (c := ⟨w, wR4, (fun _ => none)⟩) HCR4 [[], [(52, 0)], [(53, 1)], [(51, 2)], [(51, 2)], [(54, 3)], [(55, 4)]] [(52, 0), (53, 1), (51, 2), (54, 3), (55, 4), (13, 5), (14, 6)] [
              (fun v _ _ => v = .agg #[.int .i64 (xa * xb - ya * yb), .int .i64 (xa * yb + ya * xb)]),
              NrR ((xa * xb - ya * yb) * (xa * xb - ya * yb) + (xa * yb + ya * xb) * (xa * yb + ya * xb)),
              NrR ((xa * xb - ya * yb) * (xa * xb - ya * yb) + (xa * yb + ya * xb) * (xa * yb + ya * xb)),
              FlI ((xa * xb - ya * yb) * (xa * xb - ya * yb) + (xa * yb + ya * xb) * (xa * yb + ya * xb)),
              (fun v _ _ => v = .int .i64 0),
              FlI ((xa * xb - ya * yb) * (xa * xb - ya * yb) + (xa * yb + ya * xb) * (xa * yb + ya * xb)),
              (fun v _ _ => v = .int .i64 0)
            ] (fun _ => none) (by kernel_rfl) (by kernel_rfl) ⟨stab_eq, stab_firm (nrR_firm _), stab_firm (nrR_firm _), stab_firm (flI_firm _), stab_eq, stab_firm (flI_firm _), stab_eq, trivial⟩ ?steps ?fin
          case steps =>
            refine ⟨?_, ?_, ?_, ?_, ?_, ?_, ?_, trivial⟩
            · intro vs g w2 hI hF hR K hK
              simp only [Facts, fill, Act.put, z1, z2, z3, z4, z5, Nat.reduceAdd] at hF hR hK ⊢
              have k0 := hI.cell CR27_R4_0.out (fun _ h => by cases h)
              have k1 := hI.cell CR27_R4_1.out (fun _ h => by cases h)
              go_simp
              exact hK _ _ _ hI (Step.refl hI) rfl
            · intro vs g w2 hI hF hR K hK
              simp only [Facts, fill, Act.put, z1, z2, z3, z4, z5, Nat.reduceAdd] at hF hR hK ⊢
              obtain ⟨r0, -⟩ := hR
              generalize vs 0 = x0 at *
              subst r0
              go_simp
              refine (gPlNorm hI (small_of (Bd.le (Bd.sub (Bd.mul bxa bxb) (Bd.mul bya byb)) (by decide)) (Bd.le (Bd.add (Bd.mul bxa byb) (Bd.mul bya bxb)) (by decide)))).mono ?_
              rintro e w3 ⟨v3, rfl, hv, hb⟩
              exact hK _ _ _ (hI.call hb) (Step.call hI hb) hv
            · intro vs g w2 hI hF hR K hK
              simp only [Facts, fill, Act.put, z1, z2, z3, z4, z5, Nat.reduceAdd] at hF hR hK ⊢
              obtain ⟨r1, -⟩ := hR
              generalize vs 1 = x1 at *
              go_simp
              exact hK _ _ _ hI (Step.refl hI) r1
            · intro vs g w2 hI hF hR K hK
              simp only [Facts, fill, Act.put, z1, z2, z3, z4, z5, Nat.reduceAdd] at hF hR hK ⊢
              obtain ⟨r2, -⟩ := hR
              generalize vs 2 = x2 at *
              obtain ⟨rr3, rfl, hr3⟩ := r2
              go_simp
              exact hK _ _ _ hI (Step.refl hI) ⟨_, rfl, hr3⟩
            · intro vs g w2 hI hF hR K hK
              simp only [Facts, fill, Act.put, z1, z2, z3, z4, z5, Nat.reduceAdd] at hF hR hK ⊢
              obtain ⟨r2, -⟩ := hR
              generalize vs 2 = x2 at *
              obtain ⟨rr4, rfl, hr4⟩ := r2
              go_simp
              exact hK _ _ _ hI (Step.refl hI) rfl
            · intro vs g w2 hI hF hR K hK
              simp only [Facts, fill, Act.put, z1, z2, z3, z4, z5, Nat.reduceAdd] at hF hR hK ⊢
              obtain ⟨r3, -⟩ := hR
              generalize vs 3 = x3 at *
              go_simp
              exact hK _ _ _ hI (Step.refl hI) r3
            · intro vs g w2 hI hF hR K hK
              simp only [Facts, fill, Act.put, z1, z2, z3, z4, z5, Nat.reduceAdd] at hF hR hK ⊢
              obtain ⟨r4, -⟩ := hR
              generalize vs 4 = x4 at *
              subst r4
              go_simp
              exact hK _ _ _ hI (Step.refl hI) rfl
          case fin =>
            intro vs g wR5 hI hR
            have r5 := hR 5 (by decide)
            have r6 := hR 6 (by decide)
            simp only [fill, Act.put, z1, z2, z3, z4, z5] at r5 r6 ⊢
            clear hR
            generalize vs 5 = x5 at *
            generalize vs 6 = x6 at *
            have Ca_R5_0 := Lib.hid (hI.cell Ca_R4_0.out (fun _ h => by cases h))
            have Ca_R5_1 := Lib.hid (hI.cell Ca_R4_1.out (fun _ h => by cases h))
            have Cb_R5_0 := Lib.hid (hI.cell Cb_R4_0.out (fun _ h => by cases h))
            have Cb_R5_1 := Lib.hid (hI.cell Cb_R4_1.out (fun _ h => by cases h))
            have CR27_R5_0 := Lib.hid (hI.cell CR27_R4_0.out (fun _ h => by cases h))
            have CR27_R5_1 := Lib.hid (hI.cell CR27_R4_1.out (fun _ h => by cases h))
            have FR39_R5_0 := Lib.hid ((flI_firm _) _ _ _ _ _ FR39_R4_0.out hI.carry)
            have FR411_R5_0 := Lib.hid ((flI_firm _) _ _ _ _ _ FR411_R4_0.out hI.carry)
            have qfR513 := r5
            obtain ⟨fvR513, rfl, -⟩ := flI_open r5
            have FR513_R5_0 := Lib.hid ((flI_firm _) _ _ _ _ _ qfR513 hI.back)
            clear qfR513
            subst r6
            have hBR5 := hI.below
            have HCR5 := hI.next HCR4
            clear hI
            go_upto_region 6 with (fail)
            refine box_plan0 (c := ⟨w, wR5, (fun _ => none)⟩) HCR5 [[], [], [(57, 0), (58, 1)], [(59, 2)], [(56, 3)], [(56, 3)], [], [(15, 6), (60, 4)], [(61, 5)]] [(57, 0), (58, 1), (59, 2), (56, 3), (60, 4), (61, 5), (15, 6), (16, 8)] [
                (fun v _ _ => v = .agg #[.int .i64 xa, .int .i64 ya]),
                (fun v _ _ => v = .int .i64 tk),
                (fun v _ _ => v = .tuple #[.agg #[.int .i64 (trX tk xa ya), .int .i64 (trY tk xa ya)], .int .i64 0]),
                (fun v _ _ => v = .tuple #[.agg #[.int .i64 (trX tk xa ya), .int .i64 (trY tk xa ya)], .int .i64 0]),
                (fun v _ _ => v = .agg #[.int .i64 (trX tk xa ya), .int .i64 (trY tk xa ya)]),
                (fun v _ _ => v = .int .i64 0),
                PtrR 6 2,
                (fun _ g w => BoxR 6 (fun v _ _ => v = .agg #[.int .i64 (trX tk xa ya), .int .i64 (trY tk xa ya)]) g w),
                (fun v _ _ => v = .int .i64 0)
              ] (fun i => match i with | 6 => some 7 | _ => none) (by kernel_rfl) (by kernel_rfl) ⟨stab_eq, stab_eq, stab_eq, stab_eq, stab_eq, stab_eq, stab_ptr, stab_box (firm_eq _) rfl, stab_eq, trivial⟩ ?steps ?fin
            case steps =>
              refine ⟨?_, ?_, ?_, ?_, ?_, ?_, ?_, ?_, ?_, trivial⟩
              · intro vs g w2 hI hF hR K hK
                simp only [Facts, fill, Act.put, z1, z2, z3, z4, z5, Nat.reduceAdd] at hF hR hK ⊢
                have k0 := hI.cell Ca_R5_0.out (fun _ h => by cases h)
                have k1 := hI.cell Ca_R5_1.out (fun _ h => by cases h)
                go_simp
                exact hK _ _ _ hI (Step.refl hI) rfl
              · intro vs g w2 hI hF hR K hK
                simp only [Facts, fill, Act.put, z1, z2, z3, z4, z5, Nat.reduceAdd] at hF hR hK ⊢
                go_simp
                exact hK _ _ _ hI (Step.refl hI) rfl
              · intro vs g w2 hI hF hR K hK
                simp only [Facts, fill, Act.put, z1, z2, z3, z4, z5, Nat.reduceAdd] at hF hR hK ⊢
                obtain ⟨r0, r1, -⟩ := hR
                generalize vs 0 = x0, vs 1 = x1 at *
                subst r0 r1
                go_simp
                refine (gPlTurn hI (by first | assumption | (unfold S; decide) | exact Bd.s (by first | assumption | exact trX_bd bxa bya | exact trY_bd bxa bya | exact Bd.neg (tmod4_bd _)) (by decide)) (small_of (Bd.le bxa (by decide)) (Bd.le bya (by decide)))).mono ?_
                rintro e w3 ⟨v3, rfl, hv, hb⟩
                exact hK _ _ _ (hI.call hb) (Step.call hI hb) hv
              · intro vs g w2 hI hF hR K hK
                simp only [Facts, fill, Act.put, z1, z2, z3, z4, z5, Nat.reduceAdd] at hF hR hK ⊢
                obtain ⟨r2, -⟩ := hR
                generalize vs 2 = x2 at *
                subst r2
                go_simp
                exact hK _ _ _ hI (Step.refl hI) rfl
              · intro vs g w2 hI hF hR K hK
                simp only [Facts, fill, Act.put, z1, z2, z3, z4, z5, Nat.reduceAdd] at hF hR hK ⊢
                obtain ⟨r3, -⟩ := hR
                generalize vs 3 = x3 at *
                subst r3
                go_simp
                exact hK _ _ _ hI (Step.refl hI) rfl
              · intro vs g w2 hI hF hR K hK
                simp only [Facts, fill, Act.put, z1, z2, z3, z4, z5, Nat.reduceAdd] at hF hR hK ⊢
                obtain ⟨r3, -⟩ := hR
                generalize vs 3 = x3 at *
                subst r3
                go_simp
                exact hK _ _ _ hI (Step.refl hI) rfl
              · intro vs g w2 hI hF hR K hK
                simp only [Facts, fill, Act.put, z1, z2, z3, z4, z5, Nat.reduceAdd] at hF hR hK ⊢
                go_simp
                exact hK _ _ _ (hI.alloc _ (hF (by decide)) _) (Step.alloc hI (hF (by decide)) _) ⟨_, rfl, more_at _ _ _, box2' _ _ _ _⟩
              · intro vs g w2 hI hF hR K hK
                simp only [Facts, fill, Act.put, z1, z2, z3, z4, z5, Nat.reduceAdd] at hF hR hK ⊢
                obtain ⟨r6, r4, -⟩ := hR
                generalize vs 6 = x6, vs 4 = x4 at *
                subst r4
                obtain ⟨k, rfl, hk, hbx⟩ := r6
                obtain ⟨⟨u0, k0⟩, f0⟩ := hbx 0 (by decide)
                obtain ⟨⟨u1, k1⟩, f1⟩ := hbx 1 (by decide)
                go_simp
                have ht := (((Touch.refl w2 k).set 0 (.int .i64 (trX tk xa ya))).set 1 (.int .i64 (trY tk xa ya)))
                exact hK undef _ _ (hI.store (by decide) hk ht) (Step.store hI rfl hk ht) ⟨k, .agg #[.int .i64 (trX tk xa ya), .int .i64 (trY tk xa ya)], hk, by rw [ht.size]; exact hI.lt _ _ hk, cells2 k0 k1 (.int .i64 (trX tk xa ya)) (.int .i64 (trY tk xa ya)), rfl⟩
              · intro vs g w2 hI hF hR K hK
                simp only [Facts, fill, Act.put, z1, z2, z3, z4, z5, Nat.reduceAdd] at hF hR hK ⊢
                obtain ⟨r5, -⟩ := hR
                generalize vs 5 = x5 at *
                subst r5
                go_simp
                exact hK _ _ _ hI (Step.refl hI) rfl
            case fin =>
              intro vs g wR6 hI hR
              have r6 := hR 6 (by decide)
              have r7 := hR 7 (by decide)
              have r8 := hR 8 (by decide)
              simp only [fill, Act.put, z1, z2, z3, z4, z5] at r6 r7 r8 ⊢
              clear hR
              generalize vs 6 = x6 at *
              generalize vs 7 = x7 at *
              generalize vs 8 = x8 at *
              have Ca_R6_0 := Lib.hid (hI.cell Ca_R5_0.out (fun _ h => by cases h))
              have Ca_R6_1 := Lib.hid (hI.cell Ca_R5_1.out (fun _ h => by cases h))
              have Cb_R6_0 := Lib.hid (hI.cell Cb_R5_0.out (fun _ h => by cases h))
              have Cb_R6_1 := Lib.hid (hI.cell Cb_R5_1.out (fun _ h => by cases h))
              have CR27_R6_0 := Lib.hid (hI.cell CR27_R5_0.out (fun _ h => by cases h))
              have CR27_R6_1 := Lib.hid (hI.cell CR27_R5_1.out (fun _ h => by cases h))
              have FR39_R6_0 := Lib.hid ((flI_firm _) _ _ _ _ _ FR39_R5_0.out hI.carry)
              have FR411_R6_0 := Lib.hid ((flI_firm _) _ _ _ _ _ FR411_R5_0.out hI.carry)
              have FR513_R6_0 := Lib.hid ((flI_firm _) _ _ _ _ _ FR513_R5_0.out hI.carry)
              obtain ⟨pR615, rfl, hkR615, -⟩ := r6
              obtain ⟨qR615, uR615, hqR615, -, hcR615, hrR615⟩ := r7
              rw [hkR615] at hqR615
              injection hqR615 with hqR615
              subst hqR615
              subst hrR615
              have CR615_R6_0 := Lib.hid (hcR615 0 _ rfl)
              have CR615_R6_1 := Lib.hid (hcR615 1 _ rfl)
              clear hcR615 hkR615
              subst r8
              have hBR6 := hI.below
              have HCR6 := hI.next HCR5
              clear hI
              go_upto_region 7 with (fail)
              refine box_plan0 (c := ⟨w, wR6, (fun _ => none)⟩) HCR6 [[], [(63, 0)], [(64, 1)], [(62, 2)], [(62, 2)], [(65, 3)], [(66, 4)]] [(63, 0), (64, 1), (62, 2), (65, 3), (66, 4), (17, 5), (18, 6)] [
                  (fun v _ _ => v = .agg #[.int .i64 (trX tk xa ya), .int .i64 (trY tk xa ya)]),
                  NrR ((trX tk xa ya) * (trX tk xa ya) + (trY tk xa ya) * (trY tk xa ya)),
                  NrR ((trX tk xa ya) * (trX tk xa ya) + (trY tk xa ya) * (trY tk xa ya)),
                  FlI ((trX tk xa ya) * (trX tk xa ya) + (trY tk xa ya) * (trY tk xa ya)),
                  (fun v _ _ => v = .int .i64 0),
                  FlI ((trX tk xa ya) * (trX tk xa ya) + (trY tk xa ya) * (trY tk xa ya)),
                  (fun v _ _ => v = .int .i64 0)
                ] (fun _ => none) (by kernel_rfl) (by kernel_rfl) ⟨stab_eq, stab_firm (nrR_firm _), stab_firm (nrR_firm _), stab_firm (flI_firm _), stab_eq, stab_firm (flI_firm _), stab_eq, trivial⟩ ?steps ?fin
              case steps =>
                refine ⟨?_, ?_, ?_, ?_, ?_, ?_, ?_, trivial⟩
                · intro vs g w2 hI hF hR K hK
                  simp only [Facts, fill, Act.put, z1, z2, z3, z4, z5, Nat.reduceAdd] at hF hR hK ⊢
                  have k0 := hI.cell CR615_R6_0.out (fun _ h => by cases h)
                  have k1 := hI.cell CR615_R6_1.out (fun _ h => by cases h)
                  go_simp
                  exact hK _ _ _ hI (Step.refl hI) rfl
                · intro vs g w2 hI hF hR K hK
                  simp only [Facts, fill, Act.put, z1, z2, z3, z4, z5, Nat.reduceAdd] at hF hR hK ⊢
                  obtain ⟨r0, -⟩ := hR
                  generalize vs 0 = x0 at *
                  subst r0
                  go_simp
                  refine (gPlNorm hI (small_of (Bd.le (trX_bd bxa bya) (by decide)) (Bd.le (trY_bd bxa bya) (by decide)))).mono ?_
                  rintro e w3 ⟨v3, rfl, hv, hb⟩
                  exact hK _ _ _ (hI.call hb) (Step.call hI hb) hv
                · intro vs g w2 hI hF hR K hK
                  simp only [Facts, fill, Act.put, z1, z2, z3, z4, z5, Nat.reduceAdd] at hF hR hK ⊢
                  obtain ⟨r1, -⟩ := hR
                  generalize vs 1 = x1 at *
                  go_simp
                  exact hK _ _ _ hI (Step.refl hI) r1
                · intro vs g w2 hI hF hR K hK
                  simp only [Facts, fill, Act.put, z1, z2, z3, z4, z5, Nat.reduceAdd] at hF hR hK ⊢
                  obtain ⟨r2, -⟩ := hR
                  generalize vs 2 = x2 at *
                  obtain ⟨rr3, rfl, hr3⟩ := r2
                  go_simp
                  exact hK _ _ _ hI (Step.refl hI) ⟨_, rfl, hr3⟩
                · intro vs g w2 hI hF hR K hK
                  simp only [Facts, fill, Act.put, z1, z2, z3, z4, z5, Nat.reduceAdd] at hF hR hK ⊢
                  obtain ⟨r2, -⟩ := hR
                  generalize vs 2 = x2 at *
                  obtain ⟨rr4, rfl, hr4⟩ := r2
                  go_simp
                  exact hK _ _ _ hI (Step.refl hI) rfl
                · intro vs g w2 hI hF hR K hK
                  simp only [Facts, fill, Act.put, z1, z2, z3, z4, z5, Nat.reduceAdd] at hF hR hK ⊢
                  obtain ⟨r3, -⟩ := hR
                  generalize vs 3 = x3 at *
                  go_simp
                  exact hK _ _ _ hI (Step.refl hI) r3
                · intro vs g w2 hI hF hR K hK
                  simp only [Facts, fill, Act.put, z1, z2, z3, z4, z5, Nat.reduceAdd] at hF hR hK ⊢
                  obtain ⟨r4, -⟩ := hR
                  generalize vs 4 = x4 at *
                  subst r4
                  go_simp
                  exact hK _ _ _ hI (Step.refl hI) rfl
              case fin =>
                intro vs g wR7 hI hR
                have r5 := hR 5 (by decide)
                have r6 := hR 6 (by decide)
                simp only [fill, Act.put, z1, z2, z3, z4, z5] at r5 r6 ⊢
                clear hR
                generalize vs 5 = x5 at *
                generalize vs 6 = x6 at *
                have Ca_R7_0 := Lib.hid (hI.cell Ca_R6_0.out (fun _ h => by cases h))
                have Ca_R7_1 := Lib.hid (hI.cell Ca_R6_1.out (fun _ h => by cases h))
                have Cb_R7_0 := Lib.hid (hI.cell Cb_R6_0.out (fun _ h => by cases h))
                have Cb_R7_1 := Lib.hid (hI.cell Cb_R6_1.out (fun _ h => by cases h))
                have CR27_R7_0 := Lib.hid (hI.cell CR27_R6_0.out (fun _ h => by cases h))
                have CR27_R7_1 := Lib.hid (hI.cell CR27_R6_1.out (fun _ h => by cases h))
                have FR39_R7_0 := Lib.hid ((flI_firm _) _ _ _ _ _ FR39_R6_0.out hI.carry)
                have FR411_R7_0 := Lib.hid ((flI_firm _) _ _ _ _ _ FR411_R6_0.out hI.carry)
                have FR513_R7_0 := Lib.hid ((flI_firm _) _ _ _ _ _ FR513_R6_0.out hI.carry)
                have CR615_R7_0 := Lib.hid (hI.cell CR615_R6_0.out (fun _ h => by cases h))
                have CR615_R7_1 := Lib.hid (hI.cell CR615_R6_1.out (fun _ h => by cases h))
                have qfR717 := r5
                obtain ⟨fvR717, rfl, -⟩ := flI_open r5
                have FR717_R7_0 := Lib.hid ((flI_firm _) _ _ _ _ _ qfR717 hI.back)
                clear qfR717
                subst r6
                have hBR7 := hI.below
                have HCR7 := hI.next HCR6
                clear hI
                go_upto_region 8 with (fail)
                refine box_plan0 (c := ⟨w, wR7, (fun _ => none)⟩) HCR7 [[], [(67, 0)], [(68, 1)], [(68, 1), (69, 2)], [(68, 1), (70, 3)], [(71, 4)], [(72, 5)], [(72, 5), (73, 6)], [(72, 5), (74, 7)], [(75, 8)], [(76, 9)], [(76, 9), (77, 10)], [(76, 9), (78, 11)], [(79, 12)], [(80, 13)], [(80, 13), (81, 14)], [(80, 13), (82, 15)], [(83, 16)], [(84, 17)], [(84, 17), (85, 18)], [(84, 17), (86, 19)], [(87, 20)], [(88, 21)], [(88, 21), (89, 22)], [(88, 21), (90, 23)], [(91, 24)], [(92, 25)], [(92, 25)], [(92, 25)], [(92, 25), (94, 27), (95, 28)], [(92, 25), (93, 26), (96, 29)], [(92, 25), (97, 30)], [(98, 31)], [(99, 32)], [(99, 32)], [(99, 32), (100, 33), (101, 34)], [(99, 32), (102, 35)], [(103, 36)]] [(67, 0), (68, 1), (69, 2), (70, 3), (71, 4), (72, 5), (73, 6), (74, 7), (75, 8), (76, 9), (77, 10), (78, 11), (79, 12), (80, 13), (81, 14), (82, 15), (83, 16), (84, 17), (85, 18), (86, 19), (87, 20), (88, 21), (89, 22), (90, 23), (91, 24), (92, 25), (93, 26), (94, 27), (95, 28), (96, 29), (97, 30), (98, 31), (99, 32), (100, 33), (101, 34), (102, 35), (103, 36), (6, 37)] [
                    (fun v _ _ => v = .bool true),
                    (fun v _ _ => v = .bool true),
                    (fun v _ _ => v = .int .i64 0),
                    (fun v _ _ => v = .bool true),
                    (fun v _ _ => v = .bool true),
                    (fun v _ _ => v = .bool true),
                    (fun v _ _ => v = .int .i64 0),
                    (fun v _ _ => v = .bool true),
                    (fun v _ _ => v = .bool true),
                    (fun v _ _ => v = .bool true),
                    (fun v _ _ => v = .int .i64 0),
                    (fun v _ _ => v = .bool true),
                    (fun v _ _ => v = .bool true),
                    (fun v _ _ => v = .bool true),
                    (fun v _ _ => v = .int .i64 0),
                    (fun v _ _ => v = .bool true),
                    (fun v _ _ => v = .bool true),
                    (fun v _ _ => v = .bool true),
                    (fun v _ _ => v = .int .i64 0),
                    (fun v _ _ => v = .bool true),
                    (fun v _ _ => v = .bool true),
                    (fun v _ _ => v = .bool true),
                    (fun v _ _ => v = .int .i64 0),
                    (fun v _ _ => v = .bool true),
                    (fun v _ _ => v = .bool true),
                    (fun v _ _ => v = .bool true),
                    (fun v _ _ => v = .float .f64 fvR513),
                    (fun v _ _ => v = .float .f64 fvR39),
                    (fun v _ _ => v = .float .f64 fvR411),
                    FlI ((xa * xa + ya * ya) * (xb * xb + yb * yb)),
                    (fun v _ _ => v = .bool true),
                    (fun v _ _ => v = .bool true),
                    (fun v _ _ => v = .bool true),
                    (fun v _ _ => v = .float .f64 fvR717),
                    (fun v _ _ => v = .float .f64 fvR39),
                    (fun v _ _ => v = .bool true),
                    (fun v _ _ => v = .bool true),
                    (fun v _ _ => v = .bool true)
                  ] (fun _ => none) (by kernel_rfl) (by kernel_rfl) ⟨stab_eq, stab_eq, stab_eq, stab_eq, stab_eq, stab_eq, stab_eq, stab_eq, stab_eq, stab_eq, stab_eq, stab_eq, stab_eq, stab_eq, stab_eq, stab_eq, stab_eq, stab_eq, stab_eq, stab_eq, stab_eq, stab_eq, stab_eq, stab_eq, stab_eq, stab_eq, stab_eq, stab_eq, stab_eq, stab_firm (flI_firm _), stab_eq, stab_eq, stab_eq, stab_eq, stab_eq, stab_eq, stab_eq, stab_eq, trivial⟩ ?steps ?fin
                case steps =>
                  refine ⟨?_, ?_, ?_, ?_, ?_, ?_, ?_, ?_, ?_, ?_, ?_, ?_, ?_, ?_, ?_, ?_, ?_, ?_, ?_, ?_, ?_, ?_, ?_, ?_, ?_, ?_, ?_, ?_, ?_, ?_, ?_, ?_, ?_, ?_, ?_, ?_, ?_, ?_, trivial⟩
                  · intro vs g w2 hI hF hR K hK
                    simp only [Facts, fill, Act.put, z1, z2, z3, z4, z5, Nat.reduceAdd] at hF hR hK ⊢
                    go_simp
                    refine (gAlive9 hI).mono ?_
                    rintro e w3 ⟨v3, rfl, hv, hb⟩
                    exact hK _ _ _ (hI.call hb) (Step.call hI hb) hv
                  · intro vs g w2 hI hF hR K hK
                    simp only [Facts, fill, Act.put, z1, z2, z3, z4, z5, Nat.reduceAdd] at hF hR hK ⊢
                    obtain ⟨r0, -⟩ := hR
                    generalize vs 0 = x0 at *
                    subst r0
                    go_simp
                    exact hK _ _ _ hI (Step.refl hI) rfl
                  · intro vs g w2 hI hF hR K hK
                    simp only [Facts, fill, Act.put, z1, z2, z3, z4, z5, Nat.reduceAdd] at hF hR hK ⊢
                    obtain ⟨r1, -⟩ := hR
                    generalize vs 1 = x1 at *
                    subst r1
                    go_simp
                    exact hK _ _ _ hI (Step.refl hI) rfl
                  · intro vs g w2 hI hF hR K hK
                    simp only [Facts, fill, Act.put, z1, z2, z3, z4, z5, Nat.reduceAdd] at hF hR hK ⊢
                    obtain ⟨r1, r2, -⟩ := hR
                    generalize vs 1 = x1, vs 2 = x2 at *
                    subst r1 r2
                    go_simp
                    exact hK _ _ _ hI (Step.refl hI) rfl
                  · intro vs g w2 hI hF hR K hK
                    simp only [Facts, fill, Act.put, z1, z2, z3, z4, z5, Nat.reduceAdd] at hF hR hK ⊢
                    obtain ⟨r1, r3, -⟩ := hR
                    generalize vs 1 = x1, vs 3 = x3 at *
                    subst r1 r3
                    go_simp
                    exact hK _ _ _ hI (Step.refl hI) rfl
                  · intro vs g w2 hI hF hR K hK
                    simp only [Facts, fill, Act.put, z1, z2, z3, z4, z5, Nat.reduceAdd] at hF hR hK ⊢
                    obtain ⟨r4, -⟩ := hR
                    generalize vs 4 = x4 at *
                    subst r4
                    go_simp
                    exact hK _ _ _ hI (Step.refl hI) rfl
                  · intro vs g w2 hI hF hR K hK
                    simp only [Facts, fill, Act.put, z1, z2, z3, z4, z5, Nat.reduceAdd] at hF hR hK ⊢
                    obtain ⟨r5, -⟩ := hR
                    generalize vs 5 = x5 at *
                    subst r5
                    go_simp
                    exact hK _ _ _ hI (Step.refl hI) rfl
                  · intro vs g w2 hI hF hR K hK
                    simp only [Facts, fill, Act.put, z1, z2, z3, z4, z5, Nat.reduceAdd] at hF hR hK ⊢
                    obtain ⟨r5, r6, -⟩ := hR
                    generalize vs 5 = x5, vs 6 = x6 at *
                    subst r5 r6
                    go_simp
                    exact hK _ _ _ hI (Step.refl hI) rfl
                  · intro vs g w2 hI hF hR K hK
                    simp only [Facts, fill, Act.put, z1, z2, z3, z4, z5, Nat.reduceAdd] at hF hR hK ⊢
                    obtain ⟨r5, r7, -⟩ := hR
                    generalize vs 5 = x5, vs 7 = x7 at *
                    subst r5 r7
                    go_simp
                    exact hK _ _ _ hI (Step.refl hI) rfl
                  · intro vs g w2 hI hF hR K hK
                    simp only [Facts, fill, Act.put, z1, z2, z3, z4, z5, Nat.reduceAdd] at hF hR hK ⊢
                    obtain ⟨r8, -⟩ := hR
                    generalize vs 8 = x8 at *
                    subst r8
                    go_simp
                    exact hK _ _ _ hI (Step.refl hI) rfl
                  · intro vs g w2 hI hF hR K hK
                    simp only [Facts, fill, Act.put, z1, z2, z3, z4, z5, Nat.reduceAdd] at hF hR hK ⊢
                    obtain ⟨r9, -⟩ := hR
                    generalize vs 9 = x9 at *
                    subst r9
                    go_simp
                    exact hK _ _ _ hI (Step.refl hI) rfl
                  · intro vs g w2 hI hF hR K hK
                    simp only [Facts, fill, Act.put, z1, z2, z3, z4, z5, Nat.reduceAdd] at hF hR hK ⊢
                    obtain ⟨r9, r10, -⟩ := hR
                    generalize vs 9 = x9, vs 10 = x10 at *
                    subst r9 r10
                    go_simp
                    exact hK _ _ _ hI (Step.refl hI) rfl
                  · intro vs g w2 hI hF hR K hK
                    simp only [Facts, fill, Act.put, z1, z2, z3, z4, z5, Nat.reduceAdd] at hF hR hK ⊢
                    obtain ⟨r9, r11, -⟩ := hR
                    generalize vs 9 = x9, vs 11 = x11 at *
                    subst r9 r11
                    go_simp
                    exact hK _ _ _ hI (Step.refl hI) rfl
                  · intro vs g w2 hI hF hR K hK
                    simp only [Facts, fill, Act.put, z1, z2, z3, z4, z5, Nat.reduceAdd] at hF hR hK ⊢
                    obtain ⟨r12, -⟩ := hR
                    generalize vs 12 = x12 at *
                    subst r12
                    go_simp
                    exact hK _ _ _ hI (Step.refl hI) rfl
                  · intro vs g w2 hI hF hR K hK
                    simp only [Facts, fill, Act.put, z1, z2, z3, z4, z5, Nat.reduceAdd] at hF hR hK ⊢
                    obtain ⟨r13, -⟩ := hR
                    generalize vs 13 = x13 at *
                    subst r13
                    go_simp
                    exact hK _ _ _ hI (Step.refl hI) rfl
                  · intro vs g w2 hI hF hR K hK
                    simp only [Facts, fill, Act.put, z1, z2, z3, z4, z5, Nat.reduceAdd] at hF hR hK ⊢
                    obtain ⟨r13, r14, -⟩ := hR
                    generalize vs 13 = x13, vs 14 = x14 at *
                    subst r13 r14
                    go_simp
                    exact hK _ _ _ hI (Step.refl hI) rfl
                  · intro vs g w2 hI hF hR K hK
                    simp only [Facts, fill, Act.put, z1, z2, z3, z4, z5, Nat.reduceAdd] at hF hR hK ⊢
                    obtain ⟨r13, r15, -⟩ := hR
                    generalize vs 13 = x13, vs 15 = x15 at *
                    subst r13 r15
                    go_simp
                    exact hK _ _ _ hI (Step.refl hI) rfl
                  · intro vs g w2 hI hF hR K hK
                    simp only [Facts, fill, Act.put, z1, z2, z3, z4, z5, Nat.reduceAdd] at hF hR hK ⊢
                    obtain ⟨r16, -⟩ := hR
                    generalize vs 16 = x16 at *
                    subst r16
                    go_simp
                    exact hK _ _ _ hI (Step.refl hI) rfl
                  · intro vs g w2 hI hF hR K hK
                    simp only [Facts, fill, Act.put, z1, z2, z3, z4, z5, Nat.reduceAdd] at hF hR hK ⊢
                    obtain ⟨r17, -⟩ := hR
                    generalize vs 17 = x17 at *
                    subst r17
                    go_simp
                    exact hK _ _ _ hI (Step.refl hI) rfl
                  · intro vs g w2 hI hF hR K hK
                    simp only [Facts, fill, Act.put, z1, z2, z3, z4, z5, Nat.reduceAdd] at hF hR hK ⊢
                    obtain ⟨r17, r18, -⟩ := hR
                    generalize vs 17 = x17, vs 18 = x18 at *
                    subst r17 r18
                    go_simp
                    exact hK _ _ _ hI (Step.refl hI) rfl
                  · intro vs g w2 hI hF hR K hK
                    simp only [Facts, fill, Act.put, z1, z2, z3, z4, z5, Nat.reduceAdd] at hF hR hK ⊢
                    obtain ⟨r17, r19, -⟩ := hR
                    generalize vs 17 = x17, vs 19 = x19 at *
                    subst r17 r19
                    go_simp
                    exact hK _ _ _ hI (Step.refl hI) rfl
                  · intro vs g w2 hI hF hR K hK
                    simp only [Facts, fill, Act.put, z1, z2, z3, z4, z5, Nat.reduceAdd] at hF hR hK ⊢
                    obtain ⟨r20, -⟩ := hR
                    generalize vs 20 = x20 at *
                    subst r20
                    go_simp
                    exact hK _ _ _ hI (Step.refl hI) rfl
                  · intro vs g w2 hI hF hR K hK
                    simp only [Facts, fill, Act.put, z1, z2, z3, z4, z5, Nat.reduceAdd] at hF hR hK ⊢
                    obtain ⟨r21, -⟩ := hR
                    generalize vs 21 = x21 at *
                    subst r21
                    go_simp
                    exact hK _ _ _ hI (Step.refl hI) rfl
                  · intro vs g w2 hI hF hR K hK
                    simp only [Facts, fill, Act.put, z1, z2, z3, z4, z5, Nat.reduceAdd] at hF hR hK ⊢
                    obtain ⟨r21, r22, -⟩ := hR
                    generalize vs 21 = x21, vs 22 = x22 at *
                    subst r21 r22
                    go_simp
                    exact hK _ _ _ hI (Step.refl hI) rfl
                  · intro vs g w2 hI hF hR K hK
                    simp only [Facts, fill, Act.put, z1, z2, z3, z4, z5, Nat.reduceAdd] at hF hR hK ⊢
                    obtain ⟨r21, r23, -⟩ := hR
                    generalize vs 21 = x21, vs 23 = x23 at *
                    subst r21 r23
                    go_simp
                    exact hK _ _ _ hI (Step.refl hI) rfl
                  · intro vs g w2 hI hF hR K hK
                    simp only [Facts, fill, Act.put, z1, z2, z3, z4, z5, Nat.reduceAdd] at hF hR hK ⊢
                    obtain ⟨r24, -⟩ := hR
                    generalize vs 24 = x24 at *
                    subst r24
                    go_simp
                    exact hK _ _ _ hI (Step.refl hI) rfl
                  · intro vs g w2 hI hF hR K hK
                    simp only [Facts, fill, Act.put, z1, z2, z3, z4, z5, Nat.reduceAdd] at hF hR hK ⊢
                    obtain ⟨r25, -⟩ := hR
                    generalize vs 25 = x25 at *
                    subst r25
                    go_simp
                    exact hK _ _ _ hI (Step.refl hI) rfl
                  · intro vs g w2 hI hF hR K hK
                    simp only [Facts, fill, Act.put, z1, z2, z3, z4, z5, Nat.reduceAdd] at hF hR hK ⊢
                    obtain ⟨r25, -⟩ := hR
                    generalize vs 25 = x25 at *
                    subst r25
                    go_simp
                    exact hK _ _ _ hI (Step.refl hI) rfl
                  · intro vs g w2 hI hF hR K hK
                    simp only [Facts, fill, Act.put, z1, z2, z3, z4, z5, Nat.reduceAdd] at hF hR hK ⊢
                    obtain ⟨r25, -⟩ := hR
                    generalize vs 25 = x25 at *
                    subst r25
                    go_simp
                    exact hK _ _ _ hI (Step.refl hI) rfl
                  · intro vs g w2 hI hF hR K hK
                    simp only [Facts, fill, Act.put, z1, z2, z3, z4, z5, Nat.reduceAdd] at hF hR hK ⊢
                    obtain ⟨r25, r27, r28, -⟩ := hR
                    generalize vs 25 = x25, vs 27 = x27, vs 28 = x28 at *
                    subst r25 r27 r28
                    obtain ⟨rz, ez, fz⟩ := mulB (flI_fi FR39_R7_0.out) (flI_fi FR411_R7_0.out) (Bd.add (Bd.mul bxa bxa) (Bd.mul bya bya)) (Bd.add (Bd.mul bxb bxb) (Bd.mul byb byb)) (by decide)
                    have hz := fun w => run_float_arith (P := Try.prog) w .mul 33 .f64 fvR39 fvR411 rz ez
                    go_simp
                    exact hK _ _ _ hI (Step.refl hI) ⟨_, rfl, fz⟩
                  · intro vs g w2 hI hF hR K hK
                    simp only [Facts, fill, Act.put, z1, z2, z3, z4, z5, Nat.reduceAdd] at hF hR hK ⊢
                    obtain ⟨r25, r26, r29, -⟩ := hR
                    generalize vs 25 = x25, vs 26 = x26, vs 29 = x29 at *
                    subst r25 r26
                    obtain ⟨rw29, rfl, fw29⟩ := r29
                    have hz := fl_eq (flI_fi FR513_R7_0.out) fw29 (by first | rfl | exact tr_norm _ _ _ | grind)
                    go_simp
                    exact hK _ _ _ hI (Step.refl hI) rfl
                  · intro vs g w2 hI hF hR K hK
                    simp only [Facts, fill, Act.put, z1, z2, z3, z4, z5, Nat.reduceAdd] at hF hR hK ⊢
                    obtain ⟨r25, r30, -⟩ := hR
                    generalize vs 25 = x25, vs 30 = x30 at *
                    subst r25 r30
                    go_simp
                    exact hK _ _ _ hI (Step.refl hI) rfl
                  · intro vs g w2 hI hF hR K hK
                    simp only [Facts, fill, Act.put, z1, z2, z3, z4, z5, Nat.reduceAdd] at hF hR hK ⊢
                    obtain ⟨r31, -⟩ := hR
                    generalize vs 31 = x31 at *
                    subst r31
                    go_simp
                    exact hK _ _ _ hI (Step.refl hI) rfl
                  · intro vs g w2 hI hF hR K hK
                    simp only [Facts, fill, Act.put, z1, z2, z3, z4, z5, Nat.reduceAdd] at hF hR hK ⊢
                    obtain ⟨r32, -⟩ := hR
                    generalize vs 32 = x32 at *
                    subst r32
                    go_simp
                    exact hK _ _ _ hI (Step.refl hI) rfl
                  · intro vs g w2 hI hF hR K hK
                    simp only [Facts, fill, Act.put, z1, z2, z3, z4, z5, Nat.reduceAdd] at hF hR hK ⊢
                    obtain ⟨r32, -⟩ := hR
                    generalize vs 32 = x32 at *
                    subst r32
                    go_simp
                    exact hK _ _ _ hI (Step.refl hI) rfl
                  · intro vs g w2 hI hF hR K hK
                    simp only [Facts, fill, Act.put, z1, z2, z3, z4, z5, Nat.reduceAdd] at hF hR hK ⊢
                    obtain ⟨r32, r33, r34, -⟩ := hR
                    generalize vs 32 = x32, vs 33 = x33, vs 34 = x34 at *
                    subst r32 r33 r34
                    have hz := fl_eq (flI_fi FR717_R7_0.out) (flI_fi FR39_R7_0.out) (by first | rfl | exact tr_norm _ _ _ | grind)
                    go_simp
                    exact hK _ _ _ hI (Step.refl hI) rfl
                  · intro vs g w2 hI hF hR K hK
                    simp only [Facts, fill, Act.put, z1, z2, z3, z4, z5, Nat.reduceAdd] at hF hR hK ⊢
                    obtain ⟨r32, r35, -⟩ := hR
                    generalize vs 32 = x32, vs 35 = x35 at *
                    subst r32 r35
                    go_simp
                    exact hK _ _ _ hI (Step.refl hI) rfl
                  · intro vs g w2 hI hF hR K hK
                    simp only [Facts, fill, Act.put, z1, z2, z3, z4, z5, Nat.reduceAdd] at hF hR hK ⊢
                    obtain ⟨r36, -⟩ := hR
                    generalize vs 36 = x36 at *
                    subst r36
                    go_simp
                    exact hK _ _ _ hI (Step.refl hI) rfl
                case fin =>
                  intro vs g wR8 hI hR
                  have r37 := hR 37 (by decide)
                  simp only [fill, Act.put, z1, z2, z3, z4, z5] at r37 ⊢
                  clear hR
                  generalize vs 37 = x37 at *
                  have Ca_R8_0 := Lib.hid (hI.cell Ca_R7_0.out (fun _ h => by cases h))
                  have Ca_R8_1 := Lib.hid (hI.cell Ca_R7_1.out (fun _ h => by cases h))
                  have Cb_R8_0 := Lib.hid (hI.cell Cb_R7_0.out (fun _ h => by cases h))
                  have Cb_R8_1 := Lib.hid (hI.cell Cb_R7_1.out (fun _ h => by cases h))
                  have CR27_R8_0 := Lib.hid (hI.cell CR27_R7_0.out (fun _ h => by cases h))
                  have CR27_R8_1 := Lib.hid (hI.cell CR27_R7_1.out (fun _ h => by cases h))
                  have FR39_R8_0 := Lib.hid ((flI_firm _) _ _ _ _ _ FR39_R7_0.out hI.carry)
                  have FR411_R8_0 := Lib.hid ((flI_firm _) _ _ _ _ _ FR411_R7_0.out hI.carry)
                  have FR513_R8_0 := Lib.hid ((flI_firm _) _ _ _ _ _ FR513_R7_0.out hI.carry)
                  have CR615_R8_0 := Lib.hid (hI.cell CR615_R7_0.out (fun _ h => by cases h))
                  have CR615_R8_1 := Lib.hid (hI.cell CR615_R7_1.out (fun _ h => by cases h))
                  have FR717_R8_0 := Lib.hid ((flI_firm _) _ _ _ _ _ FR717_R7_0.out hI.carry)
                  subst r37
                  have hBR8 := hI.below
                  have HCR8 := hI.next HCR7
                  clear hI
                  go_wp2
                  go_ret
                  exact ⟨rfl, hBR8⟩
end Go.Proofs.Ythdboeegngcfeaa
