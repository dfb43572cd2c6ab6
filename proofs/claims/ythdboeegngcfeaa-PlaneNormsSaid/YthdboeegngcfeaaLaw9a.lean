/-
  The examples of layer 9. (Written by law9.py.)
-/
import Derived.Test.YthdboeegngcfeaaPlaneC
namespace Go.Proofs.Ythdboeegngcfeaa
open Go.RowKit
set_option maxRecDepth 100000
set_option linter.unusedVariables false
set_option linter.unusedSimpArgs false

/-- Whether a float is whole. -/
theorem wholeYes_any {a : Nat} {n : Int} (h : FI a n) (hb : Bd 9007199254740992 n) (w : World) : Calls Try.prog 22 #[.float .f64 a] w fun e w' => e = .returned (.bool true) ∧ w' = w := by
  have h1 : FloatKind.f64.format.order a 14069245235905429504 = some .gt ∨ FloatKind.f64.format.order a 14069245235905429504 = some .eq := by
    rcases Int.lt_trichotomy (-9007199254740992) n with h1 | h1 | h1
    · exact .inl (fl_gt h fi_lo h1)
    · exact .inr (fl_eq h fi_lo h1.symm)
    · unfold Bd at hb; omega
  have h2 : FloatKind.f64.format.order a 4845873199050653696 = some .lt ∨ FloatKind.f64.format.order a 4845873199050653696 = some .eq := by
    rcases Int.lt_trichotomy n 9007199254740992 with h1 | h1 | h1
    · exact .inl (fl_lt h fi_hi h1)
    · exact .inr (fl_eq h fi_hi h1)
    · unfold Bd at hb; omega
  have h3 := fl_eq h (fiB hb (by decide)) rfl
  have h4 := fun w => run_convert_float_int (P := Try.prog) w 33 2 .f64 .i64 a n (by kernel_rfl) (by kernel_rfl) (fi_toI h (by unfold Bd at hb; omega) (by unfold Bd at hb; omega))
  clear h hb
  rcases h1 with h1 | h1 <;> rcases h2 with h2 | h2
  · go_enter Try.func22, Try.ntmps22
    go_wp2
    go_ret
    exact ⟨rfl, rfl⟩
  · go_enter Try.func22, Try.ntmps22
    go_wp2
    go_ret
    exact ⟨rfl, rfl⟩
  · go_enter Try.func22, Try.ntmps22
    go_wp2
    go_ret
    exact ⟨rfl, rfl⟩
  · go_enter Try.func22, Try.ntmps22
    go_wp2
    go_ret
    exact ⟨rfl, rfl⟩
theorem wholeNo_any {a : Nat} (h : ¬ WholeW a) (w : World) : Calls Try.prog 22 #[.float .f64 a] w fun e w' => e = .returned (.bool false) ∧ w' = w := by
  rcases not_whole h with ⟨h1, h2⟩ | ⟨h1, h2, h3⟩ | ⟨h1, h2, n, hn, h3, h4⟩
  · have h1 : (FloatKind.f64.format.order a 14069245235905429504 == some .gt) = false := by rw [beq_eq_false_iff_ne]; exact h1
    have h2 : (FloatKind.f64.format.order a 14069245235905429504 == some .eq) = false := by rw [beq_eq_false_iff_ne]; exact h2
    clear h
    go_enter Try.func22, Try.ntmps22
    go_wp2
    go_ret
    exact ⟨rfl, rfl⟩
  · have h2 : (FloatKind.f64.format.order a 4845873199050653696 == some .lt) = false := by rw [beq_eq_false_iff_ne]; exact h2
    have h3 : (FloatKind.f64.format.order a 4845873199050653696 == some .eq) = false := by rw [beq_eq_false_iff_ne]; exact h3
    clear h
    rcases h1 with h1 | h1
    · go_enter Try.func22, Try.ntmps22
      go_wp2
      go_ret
      exact ⟨rfl, rfl⟩
    · go_enter Try.func22, Try.ntmps22
      go_wp2
      go_ret
      exact ⟨rfl, rfl⟩
  · have h4 : (FloatKind.f64.format.order a (floatOfInt .f64 n) == some .eq) = false := by rw [beq_eq_false_iff_ne]; exact h4
    have h5 := fun w => run_convert_float_int (P := Try.prog) w 33 2 .f64 .i64 a n (by kernel_rfl) (by kernel_rfl) h3
    clear h h3 hn
    rcases h1 with h1 | h1 <;> rcases h2 with h2 | h2
    · go_enter Try.func22, Try.ntmps22
      go_wp2
      go_ret
      exact ⟨rfl, rfl⟩
    · go_enter Try.func22, Try.ntmps22
      go_wp2
      go_ret
      exact ⟨rfl, rfl⟩
    · go_enter Try.func22, Try.ntmps22
      go_wp2
      go_ret
      exact ⟨rfl, rfl⟩
    · go_enter Try.func22, Try.ntmps22
      go_wp2
      go_ret
      exact ⟨rfl, rfl⟩
theorem gWhole {c : Ctx} {g : Gh} {w : World} {a : Nat} {n : Int} (hI : RInv c g w) (h : FI a n) (hb : Bd 9007199254740992 n) : Calls Try.prog 22 #[.float .f64 a] w (Gives (fun v _ _ => v = .bool true) g w) := by
  refine (wholeYes_any h hb w).mono ?_
  rintro e w' ⟨rfl, rfl⟩
  exact ⟨_, rfl, rfl, Below.refl _ _⟩
theorem gWholeNo {c : Ctx} {g : Gh} {w : World} {a : Nat} (hI : RInv c g w) (h : ¬ WholeW a) : Calls Try.prog 22 #[.float .f64 a] w (Gives (fun v _ _ => v = .bool false) g w) := by
  refine (wholeNo_any h w).mono ?_
  rintro e w' ⟨rfl, rfl⟩
  exact ⟨_, rfl, rfl, Below.refl _ _⟩
set_option maxRecDepth 100000 in
set_option maxHeartbeats 4000000 in
theorem alive9_any (w : World) :
    Calls Try.prog 11 #[] w fun e w' => e = .returned (.bool true) ∧ Below w.heap.size w w' := by
  obtain ⟨W, hW⟩ : ∃ W, W = w := ⟨_, rfl⟩
  have hb0 : Below w.heap.size w W := by rw [hW]; exact Below.refl _ _
  have HW := Lib.hid hW
  go_enter Try.func11, Try.ntmps11
  go_upto_region 1 with (fail)
  rw [← HW.out]
  refine box_plan0 (c := ⟨w, W, (fun _ => none)⟩) (Ctx.ok_none hb0) [[], [], [(12, 0), (13, 1)], [(14, 2)], [(11, 3)], [(11, 3)], [], [(1, 6), (15, 4)], [(16, 5)]] [(12, 0), (13, 1), (14, 2), (11, 3), (15, 4), (16, 5), (1, 6), (2, 8)] [
      (fun v _ _ => v = .agg #[.int .i64 1, .int .i64 2]),
      (fun v _ _ => v = .agg #[.int .i64 3, .int .i64 (-1)]),
      (fun v _ _ => v = .tuple #[.agg #[.int .i64 5, .int .i64 5], .int .i64 0]),
      (fun v _ _ => v = .tuple #[.agg #[.int .i64 5, .int .i64 5], .int .i64 0]),
      (fun v _ _ => v = .agg #[.int .i64 5, .int .i64 5]),
      (fun v _ _ => v = .int .i64 0),
      PtrR 6 2,
      (fun _ g w => BoxR 6 (fun v _ _ => v = .agg #[.int .i64 5, .int .i64 5]) g w),
      (fun v _ _ => v = .int .i64 0)
    ] (fun i => match i with | 6 => some 7 | _ => none) (by kernel_rfl) (by kernel_rfl) ⟨stab_eq, stab_eq, stab_eq, stab_eq, stab_eq, stab_eq, stab_ptr, stab_box (firm_eq _) rfl, stab_eq, trivial⟩ ?steps ?fin
  case steps =>
    refine ⟨?_, ?_, ?_, ?_, ?_, ?_, ?_, ?_, ?_, trivial⟩
    · intro vs g w2 hI hF hR K hK
      simp only [Facts, fill, Act.put, z1, z2, z3, z4, z5, Nat.reduceAdd] at hF hR hK ⊢
      go_simp
      exact hK _ _ _ hI (Step.refl hI) rfl
    · intro vs g w2 hI hF hR K hK
      simp only [Facts, fill, Act.put, z1, z2, z3, z4, z5, Nat.reduceAdd] at hF hR hK ⊢
      go_simp
      exact hK _ _ _ hI (Step.refl hI) rfl
    · intro vs g w2 hI hF hR K hK
      simp only [Facts, fill, Act.put, z1, z2, z3, z4, z5, Nat.reduceAdd] at hF hR hK ⊢
      obtain ⟨r0, r1, -⟩ := hR
      generalize vs 0 = x0, vs 1 = x1 at *
      subst r0 r1
      go_simp
      refine (gPlProduct hI (by decide) (by decide)).mono ?_
      rintro e w3 ⟨v3, rfl, hv, hb⟩
      exact hK _ _ _ (hI.call hb) (Step.call hI hb) hv
    · intro vs g w2 hI hF hR K hK
      simp only [Facts, fill, Act.put, z1, z2, z3, z4, z5, Nat.reduceAdd] at hF hR hK ⊢
      obtain ⟨r2, -⟩ := hR
      generalize vs 2 = x2 at *
      subst r2
      go_simp
      exact hK _ _ _ hI (Step.refl hI) rfl
    · intro vs g w2 hI hF hR K hK
      simp only [Facts, fill, Act.put, z1, z2, z3, z4, z5, Nat.reduceAdd] at hF hR hK ⊢
      obtain ⟨r3, -⟩ := hR
      generalize vs 3 = x3 at *
      subst r3
      go_simp
      exact hK _ _ _ hI (Step.refl hI) rfl
    · intro vs g w2 hI hF hR K hK
      simp only [Facts, fill, Act.put, z1, z2, z3, z4, z5, Nat.reduceAdd] at hF hR hK ⊢
      obtain ⟨r3, -⟩ := hR
      generalize vs 3 = x3 at *
      subst r3
      go_simp
      exact hK _ _ _ hI (Step.refl hI) rfl
    · intro vs g w2 hI hF hR K hK
      simp only [Facts, fill, Act.put, z1, z2, z3, z4, z5, Nat.reduceAdd] at hF hR hK ⊢
      go_simp
      exact hK _ _ _ (hI.alloc _ (hF (by decide)) _) (Step.alloc hI (hF (by decide)) _) ⟨_, rfl, more_at _ _ _, box2' _ _ _ _⟩
    · intro vs g w2 hI hF hR K hK
      simp only [Facts, fill, Act.put, z1, z2, z3, z4, z5, Nat.reduceAdd] at hF hR hK ⊢
      obtain ⟨r6, r4, -⟩ := hR
      generalize vs 6 = x6, vs 4 = x4 at *
      subst r4
      obtain ⟨k, rfl, hk, hbx⟩ := r6
      obtain ⟨⟨u0, k0⟩, f0⟩ := hbx 0 (by decide)
      obtain ⟨⟨u1, k1⟩, f1⟩ := hbx 1 (by decide)
      go_simp
      have ht := (((Touch.refl w2 k).set 0 (.int .i64 5)).set 1 (.int .i64 5))
      exact hK undef _ _ (hI.store (by decide) hk ht) (Step.store hI rfl hk ht) ⟨k, .agg #[.int .i64 5, .int .i64 5], hk, by rw [ht.size]; exact hI.lt _ _ hk, cells2 k0 k1 (.int .i64 5) (.int .i64 5), rfl⟩
    · intro vs g w2 hI hF hR K hK
      simp only [Facts, fill, Act.put, z1, z2, z3, z4, z5, Nat.reduceAdd] at hF hR hK ⊢
      obtain ⟨r5, -⟩ := hR
      generalize vs 5 = x5 at *
      subst r5
      go_simp
      exact hK _ _ _ hI (Step.refl hI) rfl
  case fin =>
    intro vs g wR1 hI hR
    have r6 := hR 6 (by decide)
    have r7 := hR 7 (by decide)
    have r8 := hR 8 (by decide)
    simp only [fill, Act.put, z1, z2, z3, z4, z5] at r6 r7 r8 ⊢
    clear hR
    generalize vs 6 = x6 at *
    generalize vs 7 = x7 at *
    generalize vs 8 = x8 at *
    obtain ⟨pR11, rfl, hkR11, -⟩ := r6
    obtain ⟨qR11, uR11, hqR11, -, hcR11, hrR11⟩ := r7
    rw [hkR11] at hqR11
    injection hqR11 with hqR11
    subst hqR11
    subst hrR11
    have CR11_R1_0 := Lib.hid (hcR11 0 _ rfl)
    have CR11_R1_1 := Lib.hid (hcR11 1 _ rfl)
    clear hcR11 hkR11
    subst r8
    have hBR1 := hI.below
    have HCR1 := hI.next (Ctx.ok_none hb0)
    clear hI
    go_upto_region 2 with (fail)
    refine box_plan0 (c := ⟨w, wR1, (fun _ => none)⟩) HCR1 [[], [(18, 0)], [(19, 1)], [(17, 2)], [(17, 2)], [], [(3, 5), (20, 3)], [(21, 4)]] [(18, 0), (19, 1), (17, 2), (20, 3), (21, 4), (3, 5), (4, 7)] [
        (fun v _ _ => v = .agg #[.int .i64 1, .int .i64 2]),
        (fun v _ _ => v = .tuple #[.agg #[.int .i64 (-2), .int .i64 1], .int .i64 0]),
        (fun v _ _ => v = .tuple #[.agg #[.int .i64 (-2), .int .i64 1], .int .i64 0]),
        (fun v _ _ => v = .agg #[.int .i64 (-2), .int .i64 1]),
        (fun v _ _ => v = .int .i64 0),
        PtrR 5 2,
        (fun _ g w => BoxR 5 (fun v _ _ => v = .agg #[.int .i64 (-2), .int .i64 1]) g w),
        (fun v _ _ => v = .int .i64 0)
      ] (fun i => match i with | 5 => some 6 | _ => none) (by kernel_rfl) (by kernel_rfl) ⟨stab_eq, stab_eq, stab_eq, stab_eq, stab_eq, stab_ptr, stab_box (firm_eq _) rfl, stab_eq, trivial⟩ ?steps ?fin
    case steps =>
      refine ⟨?_, ?_, ?_, ?_, ?_, ?_, ?_, ?_, trivial⟩
      · intro vs g w2 hI hF hR K hK
        simp only [Facts, fill, Act.put, z1, z2, z3, z4, z5, Nat.reduceAdd] at hF hR hK ⊢
        go_simp
        exact hK _ _ _ hI (Step.refl hI) rfl
      · intro vs g w2 hI hF hR K hK
        simp only [Facts, fill, Act.put, z1, z2, z3, z4, z5, Nat.reduceAdd] at hF hR hK ⊢
        obtain ⟨r0, -⟩ := hR
        generalize vs 0 = x0 at *
        subst r0
        go_simp
        refine (gPlTurn hI (by first | assumption | (unfold S; decide) | exact Bd.s (by first | assumption | exact trX_bd bxa bya | exact trY_bd bxa bya | exact Bd.neg (tmod4_bd _)) (by decide)) (by decide)).mono ?_
        rintro e w3 ⟨v3, rfl, hv, hb⟩
        exact hK _ _ _ (hI.call hb) (Step.call hI hb) hv
      · intro vs g w2 hI hF hR K hK
        simp only [Facts, fill, Act.put, z1, z2, z3, z4, z5, Nat.reduceAdd] at hF hR hK ⊢
        obtain ⟨r1, -⟩ := hR
        generalize vs 1 = x1 at *
        subst r1
        go_simp
        exact hK _ _ _ hI (Step.refl hI) rfl
      · intro vs g w2 hI hF hR K hK
        simp only [Facts, fill, Act.put, z1, z2, z3, z4, z5, Nat.reduceAdd] at hF hR hK ⊢
        obtain ⟨r2, -⟩ := hR
        generalize vs 2 = x2 at *
        subst r2
        go_simp
        exact hK _ _ _ hI (Step.refl hI) rfl
      · intro vs g w2 hI hF hR K hK
        simp only [Facts, fill, Act.put, z1, z2, z3, z4, z5, Nat.reduceAdd] at hF hR hK ⊢
        obtain ⟨r2, -⟩ := hR
        generalize vs 2 = x2 at *
        subst r2
        go_simp
        exact hK _ _ _ hI (Step.refl hI) rfl
      · intro vs g w2 hI hF hR K hK
        simp only [Facts, fill, Act.put, z1, z2, z3, z4, z5, Nat.reduceAdd] at hF hR hK ⊢
        go_simp
        exact hK _ _ _ (hI.alloc _ (hF (by decide)) _) (Step.alloc hI (hF (by decide)) _) ⟨_, rfl, more_at _ _ _, box2' _ _ _ _⟩
      · intro vs g w2 hI hF hR K hK
        simp only [Facts, fill, Act.put, z1, z2, z3, z4, z5, Nat.reduceAdd] at hF hR hK ⊢
        obtain ⟨r5, r3, -⟩ := hR
        generalize vs 5 = x5, vs 3 = x3 at *
        subst r3
        obtain ⟨k, rfl, hk, hbx⟩ := r5
        obtain ⟨⟨u0, k0⟩, f0⟩ := hbx 0 (by decide)
        obtain ⟨⟨u1, k1⟩, f1⟩ := hbx 1 (by decide)
        go_simp
        have ht := (((Touch.refl w2 k).set 0 (.int .i64 (-2))).set 1 (.int .i64 1))
        exact hK undef _ _ (hI.store (by decide) hk ht) (Step.store hI rfl hk ht) ⟨k, .agg #[.int .i64 (-2), .int .i64 1], hk, by rw [ht.size]; exact hI.lt _ _ hk, cells2 k0 k1 (.int .i64 (-2)) (.int .i64 1), rfl⟩
      · intro vs g w2 hI hF hR K hK
        simp only [Facts, fill, Act.put, z1, z2, z3, z4, z5, Nat.reduceAdd] at hF hR hK ⊢
        obtain ⟨r4, -⟩ := hR
        generalize vs 4 = x4 at *
        subst r4
        go_simp
        exact hK _ _ _ hI (Step.refl hI) rfl
    case fin =>
      intro vs g wR2 hI hR
      have r5 := hR 5 (by decide)
      have r6 := hR 6 (by decide)
      have r7 := hR 7 (by decide)
      simp only [fill, Act.put, z1, z2, z3, z4, z5] at r5 r6 r7 ⊢
      clear hR
      generalize vs 5 = x5 at *
      generalize vs 6 = x6 at *
      generalize vs 7 = x7 at *
      have CR11_R2_0 := Lib.hid (hI.cell CR11_R1_0.out (fun _ h => by cases h))
      have CR11_R2_1 := Lib.hid (hI.cell CR11_R1_1.out (fun _ h => by cases h))
      obtain ⟨pR23, rfl, hkR23, -⟩ := r5
      obtain ⟨qR23, uR23, hqR23, -, hcR23, hrR23⟩ := r6
      rw [hkR23] at hqR23
      injection hqR23 with hqR23
      subst hqR23
      subst hrR23
      have CR23_R2_0 := Lib.hid (hcR23 0 _ rfl)
      have CR23_R2_1 := Lib.hid (hcR23 1 _ rfl)
      clear hcR23 hkR23
      subst r7
      have hBR2 := hI.below
      have HCR2 := hI.next HCR1
      clear hI
      go_upto_region 3 with (fail)
      refine box_plan0 (c := ⟨w, wR2, (fun _ => none)⟩) HCR2 [[], [(23, 0)], [(24, 1)], [(22, 2)], [(22, 2)], [(25, 3)], [(26, 4)]] [(23, 0), (24, 1), (22, 2), (25, 3), (26, 4), (5, 5), (6, 6)] [
          (fun v _ _ => v = .agg #[.int .i64 3, .int .i64 4]),
          NrR 25,
          NrR 25,
          FlI 25,
          (fun v _ _ => v = .int .i64 0),
          FlI 25,
          (fun v _ _ => v = .int .i64 0)
        ] (fun _ => none) (by kernel_rfl) (by kernel_rfl) ⟨stab_eq, stab_firm (nrR_firm _), stab_firm (nrR_firm _), stab_firm (flI_firm _), stab_eq, stab_firm (flI_firm _), stab_eq, trivial⟩ ?steps ?fin
      case steps =>
        refine ⟨?_, ?_, ?_, ?_, ?_, ?_, ?_, trivial⟩
        · intro vs g w2 hI hF hR K hK
          simp only [Facts, fill, Act.put, z1, z2, z3, z4, z5, Nat.reduceAdd] at hF hR hK ⊢
          go_simp
          exact hK _ _ _ hI (Step.refl hI) rfl
        · intro vs g w2 hI hF hR K hK
          simp only [Facts, fill, Act.put, z1, z2, z3, z4, z5, Nat.reduceAdd] at hF hR hK ⊢
          obtain ⟨r0, -⟩ := hR
          generalize vs 0 = x0 at *
          subst r0
          go_simp
          refine (gPlNorm hI (by decide)).mono ?_
          rintro e w3 ⟨v3, rfl, hv, hb⟩
          exact hK _ _ _ (hI.call hb) (Step.call hI hb) hv
        · intro vs g w2 hI hF hR K hK
          simp only [Facts, fill, Act.put, z1, z2, z3, z4, z5, Nat.reduceAdd] at hF hR hK ⊢
          obtain ⟨r1, -⟩ := hR
          generalize vs 1 = x1 at *
          go_simp
          exact hK _ _ _ hI (Step.refl hI) r1
        · intro vs g w2 hI hF hR K hK
          simp only [Facts, fill, Act.put, z1, z2, z3, z4, z5, Nat.reduceAdd] at hF hR hK ⊢
          obtain ⟨r2, -⟩ := hR
          generalize vs 2 = x2 at *
          obtain ⟨rr3, rfl, hr3⟩ := r2
          go_simp
          exact hK _ _ _ hI (Step.refl hI) ⟨_, rfl, hr3⟩
        · intro vs g w2 hI hF hR K hK
          simp only [Facts, fill, Act.put, z1, z2, z3, z4, z5, Nat.reduceAdd] at hF hR hK ⊢
          obtain ⟨r2, -⟩ := hR
          generalize vs 2 = x2 at *
          obtain ⟨rr4, rfl, hr4⟩ := r2
          go_simp
          exact hK _ _ _ hI (Step.refl hI) rfl
        · intro vs g w2 hI hF hR K hK
          simp only [Facts, fill, Act.put, z1, z2, z3, z4, z5, Nat.reduceAdd] at hF hR hK ⊢
          obtain ⟨r3, -⟩ := hR
          generalize vs 3 = x3 at *
          go_simp
          exact hK _ _ _ hI (Step.refl hI) r3
        · intro vs g w2 hI hF hR K hK
          simp only [Facts, fill, Act.put, z1, z2, z3, z4, z5, Nat.reduceAdd] at hF hR hK ⊢
          obtain ⟨r4, -⟩ := hR
          generalize vs 4 = x4 at *
          subst r4
          go_simp
          exact hK _ _ _ hI (Step.refl hI) rfl
      case fin =>
        intro vs g wR3 hI hR
        have r5 := hR 5 (by decide)
        have r6 := hR 6 (by decide)
        simp only [fill, Act.put, z1, z2, z3, z4, z5] at r5 r6 ⊢
        clear hR
        generalize vs 5 = x5 at *
        generalize vs 6 = x6 at *
        have CR11_R3_0 := Lib.hid (hI.cell CR11_R2_0.out (fun _ h => by cases h))
        have CR11_R3_1 := Lib.hid (hI.cell CR11_R2_1.out (fun _ h => by cases h))
        have CR23_R3_0 := Lib.hid (hI.cell CR23_R2_0.out (fun _ h => by cases h))
        have CR23_R3_1 := Lib.hid (hI.cell CR23_R2_1.out (fun _ h => by cases h))
        have qfR35 := r5
        obtain ⟨fvR35, rfl, -⟩ := flI_open r5
        have FR35_R3_0 := Lib.hid ((flI_firm _) _ _ _ _ _ qfR35 hI.back)
        clear qfR35
        subst r6
        have hBR3 := hI.below
        have HCR3 := hI.next HCR2
        clear hI
        go_upto_region 4 with (fail)
        refine box_plan0 (c := ⟨w, wR3, (fun _ => none)⟩) HCR3 [[], [], [], [(28, 0), (29, 1), (30, 2)], [(31, 3)], [(27, 4)], [(27, 4)], [(32, 5)], [(33, 6)]] [(28, 0), (29, 1), (30, 2), (31, 3), (27, 4), (32, 5), (33, 6), (7, 7), (8, 8)] [
            (fun v _ _ => v = .agg #[.int .i64 16777217, .int .i64 0]),
            (fun v _ _ => v = .agg #[.int .i64 5, .int .i64 5]),
            (fun v _ _ => v = .agg #[.int .i64 (-2), .int .i64 1]),
            (fun v _ _ => v = .tuple #[.int .i64 0, .int .i64 3]),
            (fun v _ _ => v = .tuple #[.int .i64 0, .int .i64 3]),
            (fun v _ _ => v = .int .i64 0),
            (fun v _ _ => v = .int .i64 3),
            (fun v _ _ => v = .int .i64 0),
            (fun v _ _ => v = .int .i64 3)
          ] (fun _ => none) (by kernel_rfl) (by kernel_rfl) ⟨stab_eq, stab_eq, stab_eq, stab_eq, stab_eq, stab_eq, stab_eq, stab_eq, stab_eq, trivial⟩ ?steps ?fin
        case steps =>
          refine ⟨?_, ?_, ?_, ?_, ?_, ?_, ?_, ?_, ?_, trivial⟩
          · intro vs g w2 hI hF hR K hK
            simp only [Facts, fill, Act.put, z1, z2, z3, z4, z5, Nat.reduceAdd] at hF hR hK ⊢
            go_simp
            exact hK _ _ _ hI (Step.refl hI) rfl
          · intro vs g w2 hI hF hR K hK
            simp only [Facts, fill, Act.put, z1, z2, z3, z4, z5, Nat.reduceAdd] at hF hR hK ⊢
            have k0 := hI.cell CR11_R3_0.out (fun _ h => by cases h)
            have k1 := hI.cell CR11_R3_1.out (fun _ h => by cases h)
            go_simp
            exact hK _ _ _ hI (Step.refl hI) rfl
          · intro vs g w2 hI hF hR K hK
            simp only [Facts, fill, Act.put, z1, z2, z3, z4, z5, Nat.reduceAdd] at hF hR hK ⊢
            have k0 := hI.cell CR23_R3_0.out (fun _ h => by cases h)
            have k1 := hI.cell CR23_R3_1.out (fun _ h => by cases h)
            go_simp
            exact hK _ _ _ hI (Step.refl hI) rfl
          · intro vs g w2 hI hF hR K hK
            simp only [Facts, fill, Act.put, z1, z2, z3, z4, z5, Nat.reduceAdd] at hF hR hK ⊢
            obtain ⟨r0, r1, r2, -⟩ := hR
            generalize vs 0 = x0, vs 1 = x1, vs 2 = x2 at *
            subst r0 r1 r2
            go_simp
            refine (gPlOrientNo hI (by first | assumption | (unfold S; decide) | exact Bd.s (by first | assumption | exact trX_bd bxa bya | exact trY_bd bxa bya | exact Bd.neg (tmod4_bd _)) (by decide)) (by first | assumption | (unfold S; decide) | exact Bd.s (by first | assumption | exact trX_bd bxa bya | exact trY_bd bxa bya | exact Bd.neg (tmod4_bd _)) (by decide)) (by first | assumption | (unfold S; decide) | exact Bd.s (by first | assumption | exact trX_bd bxa bya | exact trY_bd bxa bya | exact Bd.neg (tmod4_bd _)) (by decide)) (by first | assumption | (unfold S; decide) | exact Bd.s (by first | assumption | exact trX_bd bxa bya | exact trY_bd bxa bya | exact Bd.neg (tmod4_bd _)) (by decide)) (by first | assumption | (unfold S; decide) | exact Bd.s (by first | assumption | exact trX_bd bxa bya | exact trY_bd bxa bya | exact Bd.neg (tmod4_bd _)) (by decide)) (by first | assumption | (unfold S; decide) | exact Bd.s (by first | assumption | exact trX_bd bxa bya | exact trY_bd bxa bya | exact Bd.neg (tmod4_bd _)) (by decide)) (by decide)).mono ?_
            rintro e w3 ⟨v3, rfl, hv, hb⟩
            exact hK _ _ _ (hI.call hb) (Step.call hI hb) hv
          · intro vs g w2 hI hF hR K hK
            simp only [Facts, fill, Act.put, z1, z2, z3, z4, z5, Nat.reduceAdd] at hF hR hK ⊢
            obtain ⟨r3, -⟩ := hR
            generalize vs 3 = x3 at *
            subst r3
            go_simp
            exact hK _ _ _ hI (Step.refl hI) rfl
          · intro vs g w2 hI hF hR K hK
            simp only [Facts, fill, Act.put, z1, z2, z3, z4, z5, Nat.reduceAdd] at hF hR hK ⊢
            obtain ⟨r4, -⟩ := hR
            generalize vs 4 = x4 at *
            subst r4
            go_simp
            exact hK _ _ _ hI (Step.refl hI) rfl
          · intro vs g w2 hI hF hR K hK
            simp only [Facts, fill, Act.put, z1, z2, z3, z4, z5, Nat.reduceAdd] at hF hR hK ⊢
            obtain ⟨r4, -⟩ := hR
            generalize vs 4 = x4 at *
            subst r4
            go_simp
            exact hK _ _ _ hI (Step.refl hI) rfl
          · intro vs g w2 hI hF hR K hK
            simp only [Facts, fill, Act.put, z1, z2, z3, z4, z5, Nat.reduceAdd] at hF hR hK ⊢
            obtain ⟨r5, -⟩ := hR
            generalize vs 5 = x5 at *
            subst r5
            go_simp
            exact hK _ _ _ hI (Step.refl hI) rfl
          · intro vs g w2 hI hF hR K hK
            simp only [Facts, fill, Act.put, z1, z2, z3, z4, z5, Nat.reduceAdd] at hF hR hK ⊢
            obtain ⟨r6, -⟩ := hR
            generalize vs 6 = x6 at *
            subst r6
            go_simp
            exact hK _ _ _ hI (Step.refl hI) rfl
        case fin =>
          intro vs g wR4 hI hR
          have r7 := hR 7 (by decide)
          have r8 := hR 8 (by decide)
          simp only [fill, Act.put, z1, z2, z3, z4, z5] at r7 r8 ⊢
          clear hR
          generalize vs 7 = x7 at *
          generalize vs 8 = x8 at *
          have CR11_R4_0 := Lib.hid (hI.cell CR11_R3_0.out (fun _ h => by cases h))
          have CR11_R4_1 := Lib.hid (hI.cell CR11_R3_1.out (fun _ h => by cases h))
          have CR23_R4_0 := Lib.hid (hI.cell CR23_R3_0.out (fun _ h => by cases h))
          have CR23_R4_1 := Lib.hid (hI.cell CR23_R3_1.out (fun _ h => by cases h))
          have FR35_R4_0 := Lib.hid ((flI_firm _) _ _ _ _ _ FR35_R3_0.out hI.carry)
          subst r7
          subst r8
          have hBR4 := hI.below
          have HCR4 := hI.next HCR3
          clear hI
          go_upto_region 5 with (fail)
          refine box_plan0 (c := ⟨w, wR4, (fun _ => none)⟩) HCR4 [[], [], [], [(35, 0), (36, 1), (37, 2)], [(38, 3)], [(34, 4)], [(34, 4)], [(39, 5)], [(40, 6)]] [(35, 0), (36, 1), (37, 2), (38, 3), (34, 4), (39, 5), (40, 6), (9, 7), (10, 8)] [
              (fun v _ _ => v = .agg #[.int .i64 0, .int .i64 0]),
              (fun v _ _ => v = .agg #[.int .i64 1, .int .i64 0]),
              (fun v _ _ => v = .agg #[.int .i64 0, .int .i64 1]),
              (fun v _ _ => v = .tuple #[.int .i64 1, .int .i64 0]),
              (fun v _ _ => v = .tuple #[.int .i64 1, .int .i64 0]),
              (fun v _ _ => v = .int .i64 1),
              (fun v _ _ => v = .int .i64 0),
              (fun v _ _ => v = .int .i64 1),
              (fun v _ _ => v = .int .i64 0)
            ] (fun _ => none) (by kernel_rfl) (by kernel_rfl) ⟨stab_eq, stab_eq, stab_eq, stab_eq, stab_eq, stab_eq, stab_eq, stab_eq, stab_eq, trivial⟩ ?steps ?fin
          case steps =>
            refine ⟨?_, ?_, ?_, ?_, ?_, ?_, ?_, ?_, ?_, trivial⟩
            · intro vs g w2 hI hF hR K hK
              simp only [Facts, fill, Act.put, z1, z2, z3, z4, z5, Nat.reduceAdd] at hF hR hK ⊢
              go_simp
              exact hK _ _ _ hI (Step.refl hI) rfl
            · intro vs g w2 hI hF hR K hK
              simp only [Facts, fill, Act.put, z1, z2, z3, z4, z5, Nat.reduceAdd] at hF hR hK ⊢
              go_simp
              exact hK _ _ _ hI (Step.refl hI) rfl
            · intro vs g w2 hI hF hR K hK
              simp only [Facts, fill, Act.put, z1, z2, z3, z4, z5, Nat.reduceAdd] at hF hR hK ⊢
              go_simp
              exact hK _ _ _ hI (Step.refl hI) rfl
            · intro vs g w2 hI hF hR K hK
              simp only [Facts, fill, Act.put, z1, z2, z3, z4, z5, Nat.reduceAdd] at hF hR hK ⊢
              obtain ⟨r0, r1, r2, -⟩ := hR
              generalize vs 0 = x0, vs 1 = x1, vs 2 = x2 at *
              subst r0 r1 r2
              go_simp
              refine (gPlOrient hI (by decide) (by decide) (by decide)).mono ?_
              rintro e w3 ⟨v3, rfl, hv, hb⟩
              exact hK _ _ _ (hI.call hb) (Step.call hI hb) hv
            · intro vs g w2 hI hF hR K hK
              simp only [Facts, fill, Act.put, z1, z2, z3, z4, z5, Nat.reduceAdd] at hF hR hK ⊢
              obtain ⟨r3, -⟩ := hR
              generalize vs 3 = x3 at *
              subst r3
              go_simp
              exact hK _ _ _ hI (Step.refl hI) rfl
            · intro vs g w2 hI hF hR K hK
              simp only [Facts, fill, Act.put, z1, z2, z3, z4, z5, Nat.reduceAdd] at hF hR hK ⊢
              obtain ⟨r4, -⟩ := hR
              generalize vs 4 = x4 at *
              subst r4
              go_simp
              exact hK _ _ _ hI (Step.refl hI) rfl
            · intro vs g w2 hI hF hR K hK
              simp only [Facts, fill, Act.put, z1, z2, z3, z4, z5, Nat.reduceAdd] at hF hR hK ⊢
              obtain ⟨r4, -⟩ := hR
              generalize vs 4 = x4 at *
              subst r4
              go_simp
              exact hK _ _ _ hI (Step.refl hI) rfl
            · intro vs g w2 hI hF hR K hK
              simp only [Facts, fill, Act.put, z1, z2, z3, z4, z5, Nat.reduceAdd] at hF hR hK ⊢
              obtain ⟨r5, -⟩ := hR
              generalize vs 5 = x5 at *
              subst r5
              go_simp
              exact hK _ _ _ hI (Step.refl hI) rfl
            · intro vs g w2 hI hF hR K hK
              simp only [Facts, fill, Act.put, z1, z2, z3, z4, z5, Nat.reduceAdd] at hF hR hK ⊢
              obtain ⟨r6, -⟩ := hR
              generalize vs 6 = x6 at *
              subst r6
              go_simp
              exact hK _ _ _ hI (Step.refl hI) rfl
          case fin =>
            intro vs g wR5 hI hR
            have r7 := hR 7 (by decide)
            have r8 := hR 8 (by decide)
            simp only [fill, Act.put, z1, z2, z3, z4, z5] at r7 r8 ⊢
            clear hR
            generalize vs 7 = x7 at *
            generalize vs 8 = x8 at *
            have CR11_R5_0 := Lib.hid (hI.cell CR11_R4_0.out (fun _ h => by cases h))
            have CR11_R5_1 := Lib.hid (hI.cell CR11_R4_1.out (fun _ h => by cases h))
            have CR23_R5_0 := Lib.hid (hI.cell CR23_R4_0.out (fun _ h => by cases h))
            have CR23_R5_1 := Lib.hid (hI.cell CR23_R4_1.out (fun _ h => by cases h))
            have FR35_R5_0 := Lib.hid ((flI_firm _) _ _ _ _ _ FR35_R4_0.out hI.carry)
            subst r7
            subst r8
            have hBR5 := hI.below
            have HCR5 := hI.next HCR4
            clear hI
            go_upto_region 6 with (fail)
            refine box_plan0 (c := ⟨w, wR5, (fun _ => none)⟩) HCR5 [[], [], [(41, 0), (42, 1)], [(43, 2)], [(44, 3)], [(44, 3), (45, 4)], [(44, 3), (46, 5)], [(47, 6)], [(48, 7)], [(48, 7)], [(48, 7), (49, 8), (50, 9)], [(48, 7), (51, 10)], [(52, 11)], [(53, 12)], [(53, 12), (54, 13)], [(53, 12), (55, 14)], [(56, 15)], [(57, 16)], [(57, 16), (58, 17)], [(57, 16), (59, 18)], [(60, 19)], [(61, 20)], [(61, 20), (62, 21)], [(61, 20), (63, 22)], [(64, 23)], [(65, 24)], [(65, 24), (66, 25)], [(65, 24), (67, 26)], [(68, 27)], [(69, 28)], [(69, 28), (70, 29)], [(69, 28), (71, 30)], [(72, 31)], [(73, 32)], [(73, 32), (74, 33)], [(73, 32), (75, 34)], [(76, 35)]] [(41, 0), (42, 1), (43, 2), (44, 3), (45, 4), (46, 5), (47, 6), (48, 7), (49, 8), (50, 9), (51, 10), (52, 11), (53, 12), (54, 13), (55, 14), (56, 15), (57, 16), (58, 17), (59, 18), (60, 19), (61, 20), (62, 21), (63, 22), (64, 23), (65, 24), (66, 25), (67, 26), (68, 27), (69, 28), (70, 29), (71, 30), (72, 31), (73, 32), (74, 33), (75, 34), (76, 35), (0, 36)] [
                (fun v _ _ => v = .agg #[.int .i64 5, .int .i64 5]),
                (fun v _ _ => v = .agg #[.int .i64 5, .int .i64 5]),
                (fun v _ _ => v = .bool true),
                (fun v _ _ => v = .bool true),
                (fun v _ _ => v = .int .i64 0),
                (fun v _ _ => v = .bool true),
                (fun v _ _ => v = .bool true),
                (fun v _ _ => v = .bool true),
                (fun v _ _ => v = .agg #[.int .i64 (-2), .int .i64 1]),
                (fun v _ _ => v = .agg #[.int .i64 (-2), .int .i64 1]),
                (fun v _ _ => v = .bool true),
                (fun v _ _ => v = .bool true),
                (fun v _ _ => v = .bool true),
                (fun v _ _ => v = .int .i64 0),
                (fun v _ _ => v = .bool true),
                (fun v _ _ => v = .bool true),
                (fun v _ _ => v = .bool true),
                (fun v _ _ => v = .float .f64 fvR35),
                (fun v _ _ => v = .bool true),
                (fun v _ _ => v = .bool true),
                (fun v _ _ => v = .bool true),
                (fun v _ _ => v = .int .i64 0),
                (fun v _ _ => v = .bool true),
                (fun v _ _ => v = .bool true),
                (fun v _ _ => v = .bool true),
                (fun v _ _ => v = .int .i64 3),
                (fun v _ _ => v = .bool true),
                (fun v _ _ => v = .bool true),
                (fun v _ _ => v = .bool true),
                (fun v _ _ => v = .int .i64 1),
                (fun v _ _ => v = .bool true),
                (fun v _ _ => v = .bool true),
                (fun v _ _ => v = .bool true),
                (fun v _ _ => v = .int .i64 0),
                (fun v _ _ => v = .bool true),
                (fun v _ _ => v = .bool true),
                (fun v _ _ => v = .bool true)
              ] (fun _ => none) (by kernel_rfl) (by kernel_rfl) ⟨stab_eq, stab_eq, stab_eq, stab_eq, stab_eq, stab_eq, stab_eq, stab_eq, stab_eq, stab_eq, stab_eq, stab_eq, stab_eq, stab_eq, stab_eq, stab_eq, stab_eq, stab_eq, stab_eq, stab_eq, stab_eq, stab_eq, stab_eq, stab_eq, stab_eq, stab_eq, stab_eq, stab_eq, stab_eq, stab_eq, stab_eq, stab_eq, stab_eq, stab_eq, stab_eq, stab_eq, stab_eq, trivial⟩ ?steps ?fin
            case steps =>
              refine ⟨?_, ?_, ?_, ?_, ?_, ?_, ?_, ?_, ?_, ?_, ?_, ?_, ?_, ?_, ?_, ?_, ?_, ?_, ?_, ?_, ?_, ?_, ?_, ?_, ?_, ?_, ?_, ?_, ?_, ?_, ?_, ?_, ?_, ?_, ?_, ?_, ?_, trivial⟩
              · intro vs g w2 hI hF hR K hK
                simp only [Facts, fill, Act.put, z1, z2, z3, z4, z5, Nat.reduceAdd] at hF hR hK ⊢
                have k0 := hI.cell CR11_R5_0.out (fun _ h => by cases h)
                have k1 := hI.cell CR11_R5_1.out (fun _ h => by cases h)
                go_simp
                exact hK _ _ _ hI (Step.refl hI) rfl
              · intro vs g w2 hI hF hR K hK
                simp only [Facts, fill, Act.put, z1, z2, z3, z4, z5, Nat.reduceAdd] at hF hR hK ⊢
                go_simp
                exact hK _ _ _ hI (Step.refl hI) rfl
              · intro vs g w2 hI hF hR K hK
                simp only [Facts, fill, Act.put, z1, z2, z3, z4, z5, Nat.reduceAdd] at hF hR hK ⊢
                obtain ⟨r0, r1, -⟩ := hR
                generalize vs 0 = x0, vs 1 = x1 at *
                subst r0 r1
                have hz0 : (5 == 5) = true := beq_self_eq_true _
                have hz1 : (5 == 5) = true := beq_self_eq_true _
                go_simp
                exact hK _ _ _ hI (Step.refl hI) rfl
              · intro vs g w2 hI hF hR K hK
                simp only [Facts, fill, Act.put, z1, z2, z3, z4, z5, Nat.reduceAdd] at hF hR hK ⊢
                obtain ⟨r2, -⟩ := hR
                generalize vs 2 = x2 at *
                subst r2
                go_simp
                exact hK _ _ _ hI (Step.refl hI) rfl
              · intro vs g w2 hI hF hR K hK
                simp only [Facts, fill, Act.put, z1, z2, z3, z4, z5, Nat.reduceAdd] at hF hR hK ⊢
                obtain ⟨r3, -⟩ := hR
                generalize vs 3 = x3 at *
                subst r3
                go_simp
                exact hK _ _ _ hI (Step.refl hI) rfl
              · intro vs g w2 hI hF hR K hK
                simp only [Facts, fill, Act.put, z1, z2, z3, z4, z5, Nat.reduceAdd] at hF hR hK ⊢
                obtain ⟨r3, r4, -⟩ := hR
                generalize vs 3 = x3, vs 4 = x4 at *
                subst r3 r4
                go_simp
                exact hK _ _ _ hI (Step.refl hI) rfl
              · intro vs g w2 hI hF hR K hK
                simp only [Facts, fill, Act.put, z1, z2, z3, z4, z5, Nat.reduceAdd] at hF hR hK ⊢
                obtain ⟨r3, r5, -⟩ := hR
                generalize vs 3 = x3, vs 5 = x5 at *
                subst r3 r5
                go_simp
                exact hK _ _ _ hI (Step.refl hI) rfl
              · intro vs g w2 hI hF hR K hK
                simp only [Facts, fill, Act.put, z1, z2, z3, z4, z5, Nat.reduceAdd] at hF hR hK ⊢
                obtain ⟨r6, -⟩ := hR
                generalize vs 6 = x6 at *
                subst r6
                go_simp
                exact hK _ _ _ hI (Step.refl hI) rfl
              · intro vs g w2 hI hF hR K hK
                simp only [Facts, fill, Act.put, z1, z2, z3, z4, z5, Nat.reduceAdd] at hF hR hK ⊢
                obtain ⟨r7, -⟩ := hR
                generalize vs 7 = x7 at *
                subst r7
                have k0 := hI.cell CR23_R5_0.out (fun _ h => by cases h)
                have k1 := hI.cell CR23_R5_1.out (fun _ h => by cases h)
                go_simp
                exact hK _ _ _ hI (Step.refl hI) rfl
              · intro vs g w2 hI hF hR K hK
                simp only [Facts, fill, Act.put, z1, z2, z3, z4, z5, Nat.reduceAdd] at hF hR hK ⊢
                obtain ⟨r7, -⟩ := hR
                generalize vs 7 = x7 at *
                subst r7
                go_simp
                exact hK _ _ _ hI (Step.refl hI) rfl
              · intro vs g w2 hI hF hR K hK
                simp only [Facts, fill, Act.put, z1, z2, z3, z4, z5, Nat.reduceAdd] at hF hR hK ⊢
                obtain ⟨r7, r8, r9, -⟩ := hR
                generalize vs 7 = x7, vs 8 = x8, vs 9 = x9 at *
                subst r7 r8 r9
                have hz0 : ((-2) == (-2)) = true := beq_self_eq_true _
                have hz1 : (1 == 1) = true := beq_self_eq_true _
                go_simp
                exact hK _ _ _ hI (Step.refl hI) rfl
              · intro vs g w2 hI hF hR K hK
                simp only [Facts, fill, Act.put, z1, z2, z3, z4, z5, Nat.reduceAdd] at hF hR hK ⊢
                obtain ⟨r7, r10, -⟩ := hR
                generalize vs 7 = x7, vs 10 = x10 at *
                subst r7 r10
                go_simp
                exact hK _ _ _ hI (Step.refl hI) rfl
              · intro vs g w2 hI hF hR K hK
                simp only [Facts, fill, Act.put, z1, z2, z3, z4, z5, Nat.reduceAdd] at hF hR hK ⊢
                obtain ⟨r11, -⟩ := hR
                generalize vs 11 = x11 at *
                subst r11
                go_simp
                exact hK _ _ _ hI (Step.refl hI) rfl
              · intro vs g w2 hI hF hR K hK
                simp only [Facts, fill, Act.put, z1, z2, z3, z4, z5, Nat.reduceAdd] at hF hR hK ⊢
                obtain ⟨r12, -⟩ := hR
                generalize vs 12 = x12 at *
                subst r12
                go_simp
                exact hK _ _ _ hI (Step.refl hI) rfl
              · intro vs g w2 hI hF hR K hK
                simp only [Facts, fill, Act.put, z1, z2, z3, z4, z5, Nat.reduceAdd] at hF hR hK ⊢
                obtain ⟨r12, r13, -⟩ := hR
                generalize vs 12 = x12, vs 13 = x13 at *
                subst r12 r13
                go_simp
                exact hK _ _ _ hI (Step.refl hI) rfl
              · intro vs g w2 hI hF hR K hK
                simp only [Facts, fill, Act.put, z1, z2, z3, z4, z5, Nat.reduceAdd] at hF hR hK ⊢
                obtain ⟨r12, r14, -⟩ := hR
                generalize vs 12 = x12, vs 14 = x14 at *
                subst r12 r14
                go_simp
                exact hK _ _ _ hI (Step.refl hI) rfl
              · intro vs g w2 hI hF hR K hK
                simp only [Facts, fill, Act.put, z1, z2, z3, z4, z5, Nat.reduceAdd] at hF hR hK ⊢
                obtain ⟨r15, -⟩ := hR
                generalize vs 15 = x15 at *
                subst r15
                go_simp
                exact hK _ _ _ hI (Step.refl hI) rfl
              · intro vs g w2 hI hF hR K hK
                simp only [Facts, fill, Act.put, z1, z2, z3, z4, z5, Nat.reduceAdd] at hF hR hK ⊢
                obtain ⟨r16, -⟩ := hR
                generalize vs 16 = x16 at *
                subst r16
                go_simp
                exact hK _ _ _ hI (Step.refl hI) rfl
              · intro vs g w2 hI hF hR K hK
                simp only [Facts, fill, Act.put, z1, z2, z3, z4, z5, Nat.reduceAdd] at hF hR hK ⊢
                obtain ⟨r16, r17, -⟩ := hR
                generalize vs 16 = x16, vs 17 = x17 at *
                subst r16 r17
                have hz := fl_eq (flI_fi FR35_R5_0.out) fi_25 rfl
                go_simp
                exact hK _ _ _ hI (Step.refl hI) rfl
              · intro vs g w2 hI hF hR K hK
                simp only [Facts, fill, Act.put, z1, z2, z3, z4, z5, Nat.reduceAdd] at hF hR hK ⊢
                obtain ⟨r16, r18, -⟩ := hR
                generalize vs 16 = x16, vs 18 = x18 at *
                subst r16 r18
                go_simp
                exact hK _ _ _ hI (Step.refl hI) rfl
              · intro vs g w2 hI hF hR K hK
                simp only [Facts, fill, Act.put, z1, z2, z3, z4, z5, Nat.reduceAdd] at hF hR hK ⊢
                obtain ⟨r19, -⟩ := hR
                generalize vs 19 = x19 at *
                subst r19
                go_simp
                exact hK _ _ _ hI (Step.refl hI) rfl
              · intro vs g w2 hI hF hR K hK
                simp only [Facts, fill, Act.put, z1, z2, z3, z4, z5, Nat.reduceAdd] at hF hR hK ⊢
                obtain ⟨r20, -⟩ := hR
                generalize vs 20 = x20 at *
                subst r20
                go_simp
                exact hK _ _ _ hI (Step.refl hI) rfl
              · intro vs g w2 hI hF hR K hK
                simp only [Facts, fill, Act.put, z1, z2, z3, z4, z5, Nat.reduceAdd] at hF hR hK ⊢
                obtain ⟨r20, r21, -⟩ := hR
                generalize vs 20 = x20, vs 21 = x21 at *
                subst r20 r21
                go_simp
                exact hK _ _ _ hI (Step.refl hI) rfl
              · intro vs g w2 hI hF hR K hK
                simp only [Facts, fill, Act.put, z1, z2, z3, z4, z5, Nat.reduceAdd] at hF hR hK ⊢
                obtain ⟨r20, r22, -⟩ := hR
                generalize vs 20 = x20, vs 22 = x22 at *
                subst r20 r22
                go_simp
                exact hK _ _ _ hI (Step.refl hI) rfl
              · intro vs g w2 hI hF hR K hK
                simp only [Facts, fill, Act.put, z1, z2, z3, z4, z5, Nat.reduceAdd] at hF hR hK ⊢
                obtain ⟨r23, -⟩ := hR
                generalize vs 23 = x23 at *
                subst r23
                go_simp
                exact hK _ _ _ hI (Step.refl hI) rfl
              · intro vs g w2 hI hF hR K hK
                simp only [Facts, fill, Act.put, z1, z2, z3, z4, z5, Nat.reduceAdd] at hF hR hK ⊢
                obtain ⟨r24, -⟩ := hR
                generalize vs 24 = x24 at *
                subst r24
                go_simp
                exact hK _ _ _ hI (Step.refl hI) rfl
              · intro vs g w2 hI hF hR K hK
                simp only [Facts, fill, Act.put, z1, z2, z3, z4, z5, Nat.reduceAdd] at hF hR hK ⊢
                obtain ⟨r24, r25, -⟩ := hR
                generalize vs 24 = x24, vs 25 = x25 at *
                subst r24 r25
                go_simp
                exact hK _ _ _ hI (Step.refl hI) rfl
              · intro vs g w2 hI hF hR K hK
                simp only [Facts, fill, Act.put, z1, z2, z3, z4, z5, Nat.reduceAdd] at hF hR hK ⊢
                obtain ⟨r24, r26, -⟩ := hR
                generalize vs 24 = x24, vs 26 = x26 at *
                subst r24 r26
                go_simp
                exact hK _ _ _ hI (Step.refl hI) rfl
              · intro vs g w2 hI hF hR K hK
                simp only [Facts, fill, Act.put, z1, z2, z3, z4, z5, Nat.reduceAdd] at hF hR hK ⊢
                obtain ⟨r27, -⟩ := hR
                generalize vs 27 = x27 at *
                subst r27
                go_simp
                exact hK _ _ _ hI (Step.refl hI) rfl
              · intro vs g w2 hI hF hR K hK
                simp only [Facts, fill, Act.put, z1, z2, z3, z4, z5, Nat.reduceAdd] at hF hR hK ⊢
                obtain ⟨r28, -⟩ := hR
                generalize vs 28 = x28 at *
                subst r28
                go_simp
                exact hK _ _ _ hI (Step.refl hI) rfl
              · intro vs g w2 hI hF hR K hK
                simp only [Facts, fill, Act.put, z1, z2, z3, z4, z5, Nat.reduceAdd] at hF hR hK ⊢
                obtain ⟨r28, r29, -⟩ := hR
                generalize vs 28 = x28, vs 29 = x29 at *
                subst r28 r29
                go_simp
                exact hK _ _ _ hI (Step.refl hI) rfl
              · intro vs g w2 hI hF hR K hK
                simp only [Facts, fill, Act.put, z1, z2, z3, z4, z5, Nat.reduceAdd] at hF hR hK ⊢
                obtain ⟨r28, r30, -⟩ := hR
                generalize vs 28 = x28, vs 30 = x30 at *
                subst r28 r30
                go_simp
                exact hK _ _ _ hI (Step.refl hI) rfl
              · intro vs g w2 hI hF hR K hK
                simp only [Facts, fill, Act.put, z1, z2, z3, z4, z5, Nat.reduceAdd] at hF hR hK ⊢
                obtain ⟨r31, -⟩ := hR
                generalize vs 31 = x31 at *
                subst r31
                go_simp
                exact hK _ _ _ hI (Step.refl hI) rfl
              · intro vs g w2 hI hF hR K hK
                simp only [Facts, fill, Act.put, z1, z2, z3, z4, z5, Nat.reduceAdd] at hF hR hK ⊢
                obtain ⟨r32, -⟩ := hR
                generalize vs 32 = x32 at *
                subst r32
                go_simp
                exact hK _ _ _ hI (Step.refl hI) rfl
              · intro vs g w2 hI hF hR K hK
                simp only [Facts, fill, Act.put, z1, z2, z3, z4, z5, Nat.reduceAdd] at hF hR hK ⊢
                obtain ⟨r32, r33, -⟩ := hR
                generalize vs 32 = x32, vs 33 = x33 at *
                subst r32 r33
                go_simp
                exact hK _ _ _ hI (Step.refl hI) rfl
              · intro vs g w2 hI hF hR K hK
                simp only [Facts, fill, Act.put, z1, z2, z3, z4, z5, Nat.reduceAdd] at hF hR hK ⊢
                obtain ⟨r32, r34, -⟩ := hR
                generalize vs 32 = x32, vs 34 = x34 at *
                subst r32 r34
                go_simp
                exact hK _ _ _ hI (Step.refl hI) rfl
              · intro vs g w2 hI hF hR K hK
                simp only [Facts, fill, Act.put, z1, z2, z3, z4, z5, Nat.reduceAdd] at hF hR hK ⊢
                obtain ⟨r35, -⟩ := hR
                generalize vs 35 = x35 at *
                subst r35
                go_simp
                exact hK _ _ _ hI (Step.refl hI) rfl
            case fin =>
              intro vs g wR6 hI hR
              have r36 := hR 36 (by decide)
              simp only [fill, Act.put, z1, z2, z3, z4, z5] at r36 ⊢
              clear hR
              generalize vs 36 = x36 at *
              have CR11_R6_0 := Lib.hid (hI.cell CR11_R5_0.out (fun _ h => by cases h))
              have CR11_R6_1 := Lib.hid (hI.cell CR11_R5_1.out (fun _ h => by cases h))
              have CR23_R6_0 := Lib.hid (hI.cell CR23_R5_0.out (fun _ h => by cases h))
              have CR23_R6_1 := Lib.hid (hI.cell CR23_R5_1.out (fun _ h => by cases h))
              have FR35_R6_0 := Lib.hid ((flI_firm _) _ _ _ _ _ FR35_R5_0.out hI.carry)
              subst r36
              have hBR6 := hI.below
              have HCR6 := hI.next HCR5
              clear hI
              go_wp2
              go_ret
              exact ⟨rfl, hBR6⟩
theorem gAlive9 {c : Ctx} {g : Gh} {w : World} (hI : RInv c g w) : Calls Try.prog 11 #[] w (Gives (fun v _ _ => v = .bool true) g w) := by
  refine (alive9_any w).mono ?_
  rintro e w' ⟨rfl, hb⟩
  exact ⟨_, rfl, rfl, hb⟩
end Go.Proofs.Ythdboeegngcfeaa
