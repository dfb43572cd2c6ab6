/-
  Packed texts: DiffC, OrientC, OrD.
-/
import Derived.BigQuiet
import Derived.Test.YthmkllpdkcmccaaGreatDoorP5
namespace Go.Proofs.YthmkllpdkcmccaaGreatDoor
open Go.RowKit
set_option maxRecDepth 100000
set_option linter.unusedVariables false
set_option linter.unusedSimpArgs false

theorem isVec_any (A B : Option Addr) (n m a b : Nat) (w : World) : Calls Tryz.prog 112 #[.agg #[.slice A n a, .slice B m b]] w fun e w' => e = .returned (.bool (decide (n = 2) && decide (m = 2))) ∧ Below w.heap.size w w' := by
  have hb0 : Below w.heap.size w (w.alloc (.cells #[.slice A n a, .slice B m b] 143)) := (Below.refl _ _).alloc (Nat.le_refl _) _
  by_cases h1 : n = 2
  · by_cases h2 : m = 2
    · subst h1 h2
      go_enter Tryz.func112, Tryz.ntmps112
      go_wp2
      go_ret
      exact ⟨rfl, hb0⟩
    · subst h1
      have t2 : ((m : Int) == 2) = false := by rw [beq_eq_false_iff_ne]; omega
      have e2 : decide (m = 2) = false := decide_eq_false h2
      have H2 := Lib.hid e2
      clear h2 e2
      go_enter Tryz.func112, Tryz.ntmps112
      go_wp2
      go_ret
      exact ⟨by rw [H2.out]; rfl, hb0⟩
  · have t1 : ((n : Int) == 2) = false := by rw [beq_eq_false_iff_ne]; omega
    have e1 : decide (n = 2) = false := decide_eq_false h1
    have H1 := Lib.hid e1
    clear h1 e1
    go_enter Tryz.func112, Tryz.ntmps112
    go_wp2
    go_ret
    exact ⟨by rw [H1.out]; rfl, hb0⟩
theorem gIsVec {c : Ctx} {g : Gh} {w : World} {A B : Option Addr} {a b : Nat} (_hI : RInv c g w) : Calls Tryz.prog 112 #[.agg #[.slice A 2 a, .slice B 2 b]] w (Gives (fun v _ _ => v = .bool true) g w) := by
  refine (isVec_any A B 2 2 a b w).mono ?_
  rintro e w' ⟨rfl, hb⟩
  exact ⟨_, rfl, rfl, hb⟩
theorem gExchanged {c : Ctx} {g : Gh} {w : World} {A B : Option Addr} {a b : Nat} (_hI : RInv c g w) : Calls Tryz.prog 103 #[.agg #[.slice A 2 a, .slice B 2 b]] w (Gives (fun v _ _ => v = .tuple #[.slice B 2 b, .slice A 2 a]) g w) := by
  have hb0 : Below w.heap.size w (w.alloc (.cells #[.slice A 2 a, .slice B 2 b] 143)) := (Below.refl _ _).alloc (Nat.le_refl _) _
  go_enter Tryz.func103, Tryz.ntmps103
  go_upto_region 1 with (fail)
  go_quiet (fail)
  go_wp2
  go_ret2
  exact ⟨_, rfl, rfl, below_drewN' hb0 _⟩
theorem gCoordinates {c : Ctx} {g : Gh} {w : World} {A B : Option Addr} {a b : Nat} (_hI : RInv c g w) : Calls Tryz.prog 136 #[.agg #[.slice A 2 a, .slice B 2 b]] w (Gives (fun v _ _ => v = .tuple #[.slice A 2 a, .slice B 2 b]) g w) := by
  have hb0 : Below w.heap.size w (w.alloc (.cells #[.slice A 2 a, .slice B 2 b] 143)) := (Below.refl _ _).alloc (Nat.le_refl _) _
  go_enter Tryz.func136, Tryz.ntmps136
  go_upto_region 1 with (fail)
  go_quiet (fail)
  go_wp2
  go_ret2
  exact ⟨_, rfl, rfl, below_drewN' hb0 _⟩
set_option maxRecDepth 100000 in
set_option maxHeartbeats 4000000 in
theorem gCoord {c0 : Ctx} {g0 : Gh} {w : World} {a b : Int} (hI0 : RInv c0 g0 w) (hw : Wts c0.W0) (sa : S a) (sb : S b) :
    Calls Tryz.prog 105 #[.int .i64 a, .int .i64 b] w (Gives (LimR 2 (a - b)) g0 w) := by
  have hw1 := hw.below hI0.below
  obtain ⟨W, hW⟩ : ∃ W, W = w := ⟨_, rfl⟩
  have hb0 : Below w.heap.size w W := by rw [hW]; exact (Below.refl _ _)
  have HOK := Ctx.ok_lift0 hI0 hb0
  have HW := Lib.hid hW
  clear hW
  go_enter Tryz.func105, Tryz.ntmps105
  go_upto_region 1 with (fail)
  rw [← HW.out]
  refine box_plan0 (c := ⟨w, W, (lift0 g0)⟩) HOK [[], [(5, 0)], [], [(7, 2)], [(6, 1), (8, 3)], [(9, 4)]] [(5, 0), (6, 1), (7, 2), (8, 3), (9, 4), (4, 5)] [
      (fun v _ _ => v = .int .i64 a),
      LimR 2 a,
      (fun v _ _ => v = .int .i64 b),
      LimR 2 b,
      LimR 2 (a - b),
      LimR 2 (a - b)
    ] (fun _ => none) (by kernel_rfl) (by kernel_rfl) ⟨stab_eq, stab_firm (limR_firm _ _), stab_eq, stab_firm (limR_firm _ _), stab_firm (limR_firm _ _), stab_firm (limR_firm _ _), trivial⟩ ?steps ?fin
  case steps =>
    refine ⟨?_, ?_, ?_, ?_, ?_, ?_, trivial⟩
    · intro vs g w2 hI hF hR K hK
      simp only [Facts, fill, Act.put, z1, z2, z3, z4, z5, Nat.reduceAdd] at hF hR hK ⊢
      go_simp
      exact hK _ _ _ hI (Step.refl hI) rfl
    · intro vs g w2 hI hF hR K hK
      simp only [Facts, fill, Act.put, z1, z2, z3, z4, z5, Nat.reduceAdd] at hF hR hK ⊢
      obtain ⟨r0, -⟩ := hR
      generalize vs 0 = x0 at *
      subst r0
      go_simp
      refine (gLimFrom (n := 2) hI hw1 (by first | assumption | (unfold S; decide)) (by decide) (by decide)).mono ?_
      rintro e w3 ⟨v3, rfl, hv, hb⟩
      exact hK _ _ _ (hI.call hb) (Step.call hI hb) hv
    · intro vs g w2 hI hF hR K hK
      simp only [Facts, fill, Act.put, z1, z2, z3, z4, z5, Nat.reduceAdd] at hF hR hK ⊢
      go_simp
      exact hK _ _ _ hI (Step.refl hI) rfl
    · intro vs g w2 hI hF hR K hK
      simp only [Facts, fill, Act.put, z1, z2, z3, z4, z5, Nat.reduceAdd] at hF hR hK ⊢
      obtain ⟨r2, -⟩ := hR
      generalize vs 2 = x2 at *
      subst r2
      go_simp
      refine (gLimFrom (n := 2) hI hw1 (by first | assumption | (unfold S; decide)) (by decide) (by decide)).mono ?_
      rintro e w3 ⟨v3, rfl, hv, hb⟩
      exact hK _ _ _ (hI.call hb) (Step.call hI hb) hv
    · intro vs g w2 hI hF hR K hK
      simp only [Facts, fill, Act.put, z1, z2, z3, z4, z5, Nat.reduceAdd] at hF hR hK ⊢
      obtain ⟨r1, r3, -⟩ := hR
      generalize vs 1 = x1, vs 3 = x3 at *
      go_simp
      refine (gLimSub hI hw1 r1 r3 (by decide) (by decide)).mono ?_
      rintro e w3 ⟨v3, rfl, hv, hb⟩
      exact hK _ _ _ (hI.call hb) (Step.call hI hb) hv
    · intro vs g w2 hI hF hR K hK
      simp only [Facts, fill, Act.put, z1, z2, z3, z4, z5, Nat.reduceAdd] at hF hR hK ⊢
      obtain ⟨r4, -⟩ := hR
      generalize vs 4 = x4 at *
      go_simp
      exact hK _ _ _ hI (Step.refl hI) r4
  case fin =>
    intro vs g wR1 hI hR
    have r5 := hR 5 (by decide)
    simp only [fill, Act.put, z1, z2, z3, z4, z5] at r5 ⊢
    clear hR
    generalize vs 5 = x5 at *
    have qfR14 := r5
    obtain ⟨AvR14, cvR14, rfl⟩ := limR_open r5
    have FR14_R1_0 := Lib.hid ((limR_firm _ _) _ _ _ _ _ qfR14 hI.back)
    clear qfR14
    have hBR1 := hI.below
    have HCR1 := hI.next HOK
    clear hI
    go_wp2
    go_ret
    exact ⟨_, rfl, (limR_firm _ _) _ _ _ _ _ FR14_R1_0.out keeps_out0, hBR1⟩
set_option maxRecDepth 100000 in
set_option maxHeartbeats 4000000 in
theorem gBetween {c0 : Ctx} {g0 : Gh} {w : World} {xa ya xb yb : Int} (hI0 : RInv c0 g0 w) (hw : Wts c0.W0) (sxa : S xa) (sya : S ya) (sxb : S xb) (syb : S yb) :
    Calls Tryz.prog 91 #[.agg #[.int .i64 xa, .int .i64 ya], .agg #[.int .i64 xb, .int .i64 yb]] w (Gives (VecL (xb - xa) (yb - ya)) g0 w) := by
  have hw1 := hw.below hI0.below
  obtain ⟨W, hW⟩ : ∃ W, W = ((w.alloc (.cells #[.int .i64 xa, .int .i64 ya] 24)).alloc (.cells #[.int .i64 xb, .int .i64 yb] 24)).alloc (.cells #[.slice none 0 0, .slice none 0 0] 143) := ⟨_, rfl⟩
  have hb0 : Below w.heap.size w W := by rw [hW]; exact ((((Below.refl _ _).alloc (Nat.le_refl _) _).alloc (by simp) _).alloc (by simp; omega) _)
  have HOK := Ctx.ok_lift (k := w.heap.size + 1 + 1) hI0 hb0 (by omega) (by rw [hW]; simp; try omega)
  have HBX := Lib.hid (show HasBox W (w.heap.size + 1 + 1) 2 by rw [hW]; have := box2' ((w.alloc (.cells #[.int .i64 xa, .int .i64 ya] 24)).alloc (.cells #[.int .i64 xb, .int .i64 yb] 24)) (.slice none 0 0) (.slice none 0 0) 143; simpa using this)
  have C0_W_0 := Lib.hid (show W.cell? ⟨w.heap.size, 0, none⟩ = some (.int .i64 xa) by rw [hW]; simp [go_sem])
  have C0_W_1 := Lib.hid (show W.cell? ⟨w.heap.size, 1, none⟩ = some (.int .i64 ya) by rw [hW]; simp [go_sem])
  have HO0 : Off (lift g0 (w.heap.size + 1 + 1)) (w.heap.size) := lift_off (hI0.offs _ (by omega)) (by omega)
  have C1_W_0 := Lib.hid (show W.cell? ⟨w.heap.size + 1, 0, none⟩ = some (.int .i64 xb) by rw [hW]; simp [go_sem])
  have C1_W_1 := Lib.hid (show W.cell? ⟨w.heap.size + 1, 1, none⟩ = some (.int .i64 yb) by rw [hW]; simp [go_sem])
  have HO1 : Off (lift g0 (w.heap.size + 1 + 1)) (w.heap.size + 1) := lift_off (hI0.offs _ (by omega)) (by omega)
  have HW := Lib.hid hW
  clear hW
  go_enter Tryz.func91, Tryz.ntmps91
  go_upto_region 1 with (fail)
  rw [← HW.out]
  refine box_plan (c := ⟨w, W, (lift g0 (w.heap.size + 1 + 1))⟩) HOK (by kernel_rfl) [[], [(5, 0)], [], [(7, 2)], [(6, 1), (8, 3)], [], [(10, 5)], [], [(12, 7)], [(11, 6), (13, 8)], [(9, 4), (14, 9)], [(15, 10)]] [(5, 0), (6, 1), (7, 2), (8, 3), (9, 4), (10, 5), (11, 6), (12, 7), (13, 8), (14, 9), (15, 10)] [
      (fun v _ _ => v = .pointer (some ⟨w.heap.size + 1, 0, none⟩)),
      (fun v _ _ => v = .int .i64 xb),
      (fun v _ _ => v = .pointer (some ⟨w.heap.size, 0, none⟩)),
      (fun v _ _ => v = .int .i64 xa),
      LimR 2 (xb - xa),
      (fun v _ _ => v = .pointer (some ⟨w.heap.size + 1, 1, none⟩)),
      (fun v _ _ => v = .int .i64 yb),
      (fun v _ _ => v = .pointer (some ⟨w.heap.size, 1, none⟩)),
      (fun v _ _ => v = .int .i64 ya),
      LimR 2 (yb - ya),
      VecL (xb - xa) (yb - ya),
      (fun _ g w => BoxR 1000 (VecL (xb - xa) (yb - ya)) g w)
    ] (fun i => match i with | 1000 => some 11 | _ => none) (by kernel_rfl) (by kernel_rfl) ⟨stab_eq, stab_eq, stab_eq, stab_eq, stab_firm (limR_firm _ _), stab_eq, stab_eq, stab_eq, stab_eq, stab_firm (limR_firm _ _), stab_firm (vecL_firm _ _), stab_box (vecL_firm _ _) rfl, trivial⟩ ?steps ?fin
  case steps =>
    refine ⟨?_, ?_, ?_, ?_, ?_, ?_, ?_, ?_, ?_, ?_, ?_, ?_, trivial⟩
    · intro vs g w2 hI hF hR K hK
      simp only [Facts, fill, Act.put, z1, z2, z3, z4, z5, Nat.reduceAdd] at hF hR hK ⊢
      go_simp
      exact hK _ _ _ hI (Step.refl hI) rfl
    · intro vs g w2 hI hF hR K hK
      simp only [Facts, fill, Act.put, z1, z2, z3, z4, z5, Nat.reduceAdd] at hF hR hK ⊢
      obtain ⟨r0, -⟩ := hR
      generalize vs 0 = x0 at *
      subst r0
      have k0 := hI.cell C1_W_0.out (by first | exact HO0 | exact HO1)
      go_simp
      exact hK _ _ _ hI (Step.refl hI) rfl
    · intro vs g w2 hI hF hR K hK
      simp only [Facts, fill, Act.put, z1, z2, z3, z4, z5, Nat.reduceAdd] at hF hR hK ⊢
      go_simp
      exact hK _ _ _ hI (Step.refl hI) rfl
    · intro vs g w2 hI hF hR K hK
      simp only [Facts, fill, Act.put, z1, z2, z3, z4, z5, Nat.reduceAdd] at hF hR hK ⊢
      obtain ⟨r2, -⟩ := hR
      generalize vs 2 = x2 at *
      subst r2
      have k0 := hI.cell C0_W_0.out (by first | exact HO0 | exact HO1)
      go_simp
      exact hK _ _ _ hI (Step.refl hI) rfl
    · intro vs g w2 hI hF hR K hK
      simp only [Facts, fill, Act.put, z1, z2, z3, z4, z5, Nat.reduceAdd] at hF hR hK ⊢
      obtain ⟨r1, r3, -⟩ := hR
      generalize vs 1 = x1, vs 3 = x3 at *
      subst r1 r3
      go_simp
      refine (gCoord hI hw1 (by first | assumption | (unfold S; decide)) (by first | assumption | (unfold S; decide))).mono ?_
      rintro e w3 ⟨v3, rfl, hv, hb⟩
      exact hK _ _ _ (hI.call hb) (Step.call hI hb) hv
    · intro vs g w2 hI hF hR K hK
      simp only [Facts, fill, Act.put, z1, z2, z3, z4, z5, Nat.reduceAdd] at hF hR hK ⊢
      go_simp
      exact hK _ _ _ hI (Step.refl hI) rfl
    · intro vs g w2 hI hF hR K hK
      simp only [Facts, fill, Act.put, z1, z2, z3, z4, z5, Nat.reduceAdd] at hF hR hK ⊢
      obtain ⟨r5, -⟩ := hR
      generalize vs 5 = x5 at *
      subst r5
      have k0 := hI.cell C1_W_1.out (by first | exact HO0 | exact HO1)
      go_simp
      exact hK _ _ _ hI (Step.refl hI) rfl
    · intro vs g w2 hI hF hR K hK
      simp only [Facts, fill, Act.put, z1, z2, z3, z4, z5, Nat.reduceAdd] at hF hR hK ⊢
      go_simp
      exact hK _ _ _ hI (Step.refl hI) rfl
    · intro vs g w2 hI hF hR K hK
      simp only [Facts, fill, Act.put, z1, z2, z3, z4, z5, Nat.reduceAdd] at hF hR hK ⊢
      obtain ⟨r7, -⟩ := hR
      generalize vs 7 = x7 at *
      subst r7
      have k0 := hI.cell C0_W_1.out (by first | exact HO0 | exact HO1)
      go_simp
      exact hK _ _ _ hI (Step.refl hI) rfl
    · intro vs g w2 hI hF hR K hK
      simp only [Facts, fill, Act.put, z1, z2, z3, z4, z5, Nat.reduceAdd] at hF hR hK ⊢
      obtain ⟨r6, r8, -⟩ := hR
      generalize vs 6 = x6, vs 8 = x8 at *
      subst r6 r8
      go_simp
      refine (gCoord hI hw1 (by first | assumption | (unfold S; decide)) (by first | assumption | (unfold S; decide))).mono ?_
      rintro e w3 ⟨v3, rfl, hv, hb⟩
      exact hK _ _ _ (hI.call hb) (Step.call hI hb) hv
    · intro vs g w2 hI hF hR K hK
      simp only [Facts, fill, Act.put, z1, z2, z3, z4, z5, Nat.reduceAdd] at hF hR hK ⊢
      obtain ⟨r4, r9, -⟩ := hR
      generalize vs 4 = x4, vs 9 = x9 at *
      have q0 := r4
      have q1 := r9
      obtain ⟨A0, c0, rfl⟩ := limR_open r4
      obtain ⟨A1, c1, rfl⟩ := limR_open r9
      go_simp
      exact hK _ _ _ hI (Step.refl hI) (vecL_mk q0 q1)
    · intro vs g w2 hI hF hR K hK
      simp only [Facts, fill, Act.put, z1, z2, z3, z4, z5, Nat.reduceAdd] at hF hR hK ⊢
      obtain ⟨r10, -⟩ := hR
      generalize vs 10 = x10 at *
      have hk := hI.keep0 1000 _ (lift_at g0 (w.heap.size + 1 + 1))
      have hbx := hI.box0 1000 _ 2 (lift_at g0 (w.heap.size + 1 + 1)) HBX.out
      have qx := r10
      obtain ⟨A11, c11, B11, d11, rfl⟩ := vecL_open r10
      obtain ⟨⟨u0, k0⟩, f0⟩ := hbx 0 (by decide)
      obtain ⟨⟨u1, k1⟩, f1⟩ := hbx 1 (by decide)
      go_simp
      have ht := (((Touch.refl w2 (w.heap.size + 1 + 1)).set 0 (.slice A11 2 c11)).set 1 (.slice B11 2 d11))
      exact hK undef _ _ (hI.store (by decide) hk ht) (Step.store hI rfl hk ht) ⟨(w.heap.size + 1 + 1), .agg #[.slice A11 2 c11, .slice B11 2 d11], hk, by rw [ht.size]; exact hI.lt _ _ hk, cells2 k0 k1 (.slice A11 2 c11) (.slice B11 2 d11), ((vecL_firm _ _) _ _ _ _ _ qx (ht.keeps hk))⟩
  case fin =>
    intro vs g wR1 hI hR
    have r11 := hR 11 (by decide)
    simp only [fill, Act.put, z1, z2, z3, z4, z5] at r11 ⊢
    clear hR
    generalize vs 11 = x11 at *
    have C0_R1_0 := Lib.hid (hI.cell C0_W_0.out (by first | exact HO0 | exact HO1))
    have C0_R1_1 := Lib.hid (hI.cell C0_W_1.out (by first | exact HO0 | exact HO1))
    have C1_R1_0 := Lib.hid (hI.cell C1_W_0.out (by first | exact HO0 | exact HO1))
    have C1_R1_1 := Lib.hid (hI.cell C1_W_1.out (by first | exact HO0 | exact HO1))
    have hkR14 := hI.keep0 1000 _ (lift_at g0 (w.heap.size + 1 + 1))
    obtain ⟨qR14, uR14, hqR14, -, hcR14, hrR14⟩ := r11
    rw [hkR14] at hqR14
    injection hqR14 with hqR14
    subst hqR14
    have qfR14 := hrR14
    obtain ⟨AvR14, cvR14, BvR14, dvR14, rfl⟩ := vecL_open hrR14
    have FR14_R1_0 := Lib.hid ((vecL_firm _ _) _ _ _ _ _ qfR14 hI.back)
    clear qfR14
    have FR14_R1_1 := Lib.hid (vecL_x FR14_R1_0.out)
    have FR14_R1_2 := Lib.hid (vecL_y FR14_R1_0.out)
    have CR14_R1_0 := Lib.hid (hcR14 0 _ rfl)
    have CR14_R1_1 := Lib.hid (hcR14 1 _ rfl)
    clear hcR14 hkR14
    have hBR1 := hI.below
    have HCR1 := hI.next HOK
    clear hI
    go_wp2
    exact bodyPost_ret (v := .agg #[.slice AvR14 2 cvR14, .slice BvR14 2 dvR14]) (by simp [results, Tryz.results91, go_sem, CR14_R1_0.out, CR14_R1_1.out]) rfl ⟨_, rfl, (vecL_firm _ _) _ _ _ _ _ FR14_R1_0.out keeps_out, hBR1⟩
set_option maxRecDepth 100000 in
set_option maxHeartbeats 4000000 in
theorem gCloSub {c0 : Ctx} {g0 : Gh} {w : World} {A B : Option Addr} {a b bo bu : Nat} {xa ya p q : Int} {vp vq : Value} (hI0 : RInv c0 g0 w) (hw : Wts c0.W0) (ho : w.cell? ⟨bo, 0, none⟩ = some (.func (.func 104) #[] #[])) (hu0 : w.cell? ⟨bu, 0, none⟩ = some (.slice A 2 a)) (hu1 : w.cell? ⟨bu, 1, none⟩ = some (.slice B 2 b)) (oo : Off g0 bo) (ou : Off g0 bu) (ua : LimR 2 xa (.slice A 2 a) g0 w) (ub : LimR 2 ya (.slice B 2 b) g0 w) (hp : LimR 2 p vp g0 w) (hq : LimR 2 q vq g0 w) (exa : sv (limbs 2 xa) = xa) (eya : sv (limbs 2 ya) = ya) (ep : sv (limbs 2 p) = p) (eq : sv (limbs 2 q) = q) :
    Calls Tryz.prog 113 #[vp, vq, .pointer (some ⟨bo, 0, none⟩), .pointer (some ⟨bu, 0, none⟩)] w (Gives (LimR 4 (xa * p - ya * q)) g0 w) := by
  have hw1 := hw.below hI0.below
  have HE0 := Lib.hid exa
  have HE1 := Lib.hid eya
  have HE2 := Lib.hid ep
  have HE3 := Lib.hid eq
  clear exa eya ep eq
  obtain ⟨W, hW⟩ : ∃ W, W = w := ⟨_, rfl⟩
  have hb0 : Below w.heap.size w W := by rw [hW]; exact (Below.refl _ _)
  have HOK := Ctx.ok_lift0 hI0 hb0
  have Fp_W_0 := Lib.hid ((limR_firm _ _) _ _ _ _ _ (hp) (keeps_lift0 hb0))
  have Fq_W_0 := Lib.hid ((limR_firm _ _) _ _ _ _ _ (hq) (keeps_lift0 hb0))
  have C2_W_0 := Lib.hid (show W.cell? ⟨bo, 0, none⟩ = some (.func (.func 104) #[] #[]) by rw [hW]; exact ho)
  have HO2 : Off (lift0 g0) (bo) := lift0_off oo
  have C3_W_0 := Lib.hid (show W.cell? ⟨bu, 0, none⟩ = some (.slice A 2 a) by rw [hW]; exact hu0)
  have C3_W_1 := Lib.hid (show W.cell? ⟨bu, 1, none⟩ = some (.slice B 2 b) by rw [hW]; exact hu1)
  have Fxa_W_01 := Lib.hid ((limR_firm _ _) _ _ _ _ _ (ua) (keeps_lift0 hb0))
  have Fya_W_11 := Lib.hid ((limR_firm _ _) _ _ _ _ _ (ub) (keeps_lift0 hb0))
  have HO3 : Off (lift0 g0) (bu) := lift0_off ou
  have HW := Lib.hid hW
  clear hW
  go_enter Tryz.func113, Tryz.ntmps113
  go_upto_region 1 with (fail)
  rw [← HW.out]
  refine box_plan (c := ⟨w, W, (lift0 g0)⟩) HOK (by kernel_rfl) [[], [], [(8, 1)], [], [(9, 2), (10, 3)], [], [(12, 5)], [], [(13, 6), (14, 7)], [(7, 0), (11, 4), (15, 8)], [(16, 9)]] [(7, 0), (8, 1), (9, 2), (10, 3), (11, 4), (12, 5), (13, 6), (14, 7), (15, 8), (16, 9), (6, 10)] [
      (fun v _ _ => v = .func (.func 104) #[] #[]),
      (fun v _ _ => v = .pointer (some ⟨bu, 0, none⟩)),
      (fun v _ _ => v = .slice A 2 a),
      (fun v _ _ => v = vp),
      LimR 4 (xa * p),
      (fun v _ _ => v = .pointer (some ⟨bu, 1, none⟩)),
      (fun v _ _ => v = .slice B 2 b),
      (fun v _ _ => v = vq),
      LimR 4 (ya * q),
      LimR 4 ((xa * p) - (ya * q)),
      LimR 4 ((xa * p) - (ya * q))
    ] (fun _ => none) (by kernel_rfl) (by kernel_rfl) ⟨stab_eq, stab_eq, stab_eq, stab_eq, stab_firm (limR_firm _ _), stab_eq, stab_eq, stab_eq, stab_firm (limR_firm _ _), stab_firm (limR_firm _ _), stab_firm (limR_firm _ _), trivial⟩ ?steps ?fin
  case steps =>
    refine ⟨?_, ?_, ?_, ?_, ?_, ?_, ?_, ?_, ?_, ?_, ?_, trivial⟩
    · intro vs g w2 hI hF hR K hK
      simp only [Facts, fill, Act.put, z1, z2, z3, z4, z5, Nat.reduceAdd] at hF hR hK ⊢
      have k0 := hI.cell C2_W_0.out (by first | exact HO2 | exact HO3)
      go_simp
      exact hK _ _ _ hI (Step.refl hI) rfl
    · intro vs g w2 hI hF hR K hK
      simp only [Facts, fill, Act.put, z1, z2, z3, z4, z5, Nat.reduceAdd] at hF hR hK ⊢
      go_simp
      exact hK _ _ _ hI (Step.refl hI) rfl
    · intro vs g w2 hI hF hR K hK
      simp only [Facts, fill, Act.put, z1, z2, z3, z4, z5, Nat.reduceAdd] at hF hR hK ⊢
      obtain ⟨r1, -⟩ := hR
      generalize vs 1 = x1 at *
      subst r1
      have k0 := hI.cell C3_W_0.out (by first | exact HO2 | exact HO3)
      go_simp
      exact hK _ _ _ hI (Step.refl hI) rfl
    · intro vs g w2 hI hF hR K hK
      simp only [Facts, fill, Act.put, z1, z2, z3, z4, z5, Nat.reduceAdd] at hF hR hK ⊢
      go_simp
      exact hK _ _ _ hI (Step.refl hI) rfl
    · intro vs g w2 hI hF hR K hK
      simp only [Facts, fill, Act.put, z1, z2, z3, z4, z5, Nat.reduceAdd] at hF hR hK ⊢
      obtain ⟨r2, r3, -⟩ := hR
      generalize vs 2 = x2, vs 3 = x3 at *
      subst r2 r3
      go_simp
      refine (gLimMul hI hw1 ((limR_firm _ _) _ _ _ _ _ Fxa_W_01.out hI.keeps) ((limR_firm _ _) _ _ _ _ _ Fp_W_0.out hI.keeps) (by first | exact HE0.out | exact HE1.out | exact HE2.out | exact HE3.out) (by first | exact HE0.out | exact HE1.out | exact HE2.out | exact HE3.out) (by decide) (by decide) (by decide) rfl).mono ?_
      rintro e w3 ⟨v3, rfl, hv, hb⟩
      exact hK _ _ _ (hI.call hb) (Step.call hI hb) hv
    · intro vs g w2 hI hF hR K hK
      simp only [Facts, fill, Act.put, z1, z2, z3, z4, z5, Nat.reduceAdd] at hF hR hK ⊢
      go_simp
      exact hK _ _ _ hI (Step.refl hI) rfl
    · intro vs g w2 hI hF hR K hK
      simp only [Facts, fill, Act.put, z1, z2, z3, z4, z5, Nat.reduceAdd] at hF hR hK ⊢
      obtain ⟨r5, -⟩ := hR
      generalize vs 5 = x5 at *
      subst r5
      have k0 := hI.cell C3_W_1.out (by first | exact HO2 | exact HO3)
      go_simp
      exact hK _ _ _ hI (Step.refl hI) rfl
    · intro vs g w2 hI hF hR K hK
      simp only [Facts, fill, Act.put, z1, z2, z3, z4, z5, Nat.reduceAdd] at hF hR hK ⊢
      go_simp
      exact hK _ _ _ hI (Step.refl hI) rfl
    · intro vs g w2 hI hF hR K hK
      simp only [Facts, fill, Act.put, z1, z2, z3, z4, z5, Nat.reduceAdd] at hF hR hK ⊢
      obtain ⟨r6, r7, -⟩ := hR
      generalize vs 6 = x6, vs 7 = x7 at *
      subst r6 r7
      go_simp
      refine (gLimMul hI hw1 ((limR_firm _ _) _ _ _ _ _ Fya_W_11.out hI.keeps) ((limR_firm _ _) _ _ _ _ _ Fq_W_0.out hI.keeps) (by first | exact HE0.out | exact HE1.out | exact HE2.out | exact HE3.out) (by first | exact HE0.out | exact HE1.out | exact HE2.out | exact HE3.out) (by decide) (by decide) (by decide) rfl).mono ?_
      rintro e w3 ⟨v3, rfl, hv, hb⟩
      exact hK _ _ _ (hI.call hb) (Step.call hI hb) hv
    · intro vs g w2 hI hF hR K hK
      simp only [Facts, fill, Act.put, z1, z2, z3, z4, z5, Nat.reduceAdd] at hF hR hK ⊢
      obtain ⟨r0, r4, r8, -⟩ := hR
      generalize vs 0 = x0, vs 4 = x4, vs 8 = x8 at *
      subst r0
      go_simp
      refine (gLimSub hI hw1 r4 r8 (by decide) (by decide)).mono ?_
      rintro e w3 ⟨v3, rfl, hv, hb⟩
      exact hK _ _ _ (hI.call hb) (Step.call hI hb) hv
    · intro vs g w2 hI hF hR K hK
      simp only [Facts, fill, Act.put, z1, z2, z3, z4, z5, Nat.reduceAdd] at hF hR hK ⊢
      obtain ⟨r9, -⟩ := hR
      generalize vs 9 = x9 at *
      go_simp
      exact hK _ _ _ hI (Step.refl hI) r9
  case fin =>
    intro vs g wR1 hI hR
    have r10 := hR 10 (by decide)
    simp only [fill, Act.put, z1, z2, z3, z4, z5] at r10 ⊢
    clear hR
    generalize vs 10 = x10 at *
    have Fp_R1_0 := Lib.hid ((limR_firm _ _) _ _ _ _ _ Fp_W_0.out hI.carry)
    have Fq_R1_0 := Lib.hid ((limR_firm _ _) _ _ _ _ _ Fq_W_0.out hI.carry)
    have C2_R1_0 := Lib.hid (hI.cell C2_W_0.out (by first | exact HO2 | exact HO3))
    have C3_R1_0 := Lib.hid (hI.cell C3_W_0.out (by first | exact HO2 | exact HO3))
    have C3_R1_1 := Lib.hid (hI.cell C3_W_1.out (by first | exact HO2 | exact HO3))
    have Fxa_R1_01 := Lib.hid ((limR_firm _ _) _ _ _ _ _ Fxa_W_01.out hI.carry)
    have Fya_R1_11 := Lib.hid ((limR_firm _ _) _ _ _ _ _ Fya_W_11.out hI.carry)
    have qfR16 := r10
    obtain ⟨AvR16, cvR16, rfl⟩ := limR_open r10
    have FR16_R1_0 := Lib.hid ((limR_firm _ _) _ _ _ _ _ qfR16 hI.back)
    clear qfR16
    have hBR1 := hI.below
    have HCR1 := hI.next HOK
    clear hI
    go_wp2
    go_ret
    exact ⟨_, rfl, (limR_firm _ _) _ _ _ _ _ FR16_R1_0.out keeps_out0, hBR1⟩
set_option maxRecDepth 100000 in
set_option maxHeartbeats 4000000 in
theorem gCloAdd {c0 : Ctx} {g0 : Gh} {w : World} {A B : Option Addr} {a b bo bu : Nat} {xa ya p q : Int} {vp vq : Value} (hI0 : RInv c0 g0 w) (hw : Wts c0.W0) (ho : w.cell? ⟨bo, 0, none⟩ = some (.func (.func 110) #[] #[])) (hu0 : w.cell? ⟨bu, 0, none⟩ = some (.slice A 2 a)) (hu1 : w.cell? ⟨bu, 1, none⟩ = some (.slice B 2 b)) (oo : Off g0 bo) (ou : Off g0 bu) (ua : LimR 2 xa (.slice A 2 a) g0 w) (ub : LimR 2 ya (.slice B 2 b) g0 w) (hp : LimR 2 p vp g0 w) (hq : LimR 2 q vq g0 w) (exa : sv (limbs 2 xa) = xa) (eya : sv (limbs 2 ya) = ya) (ep : sv (limbs 2 p) = p) (eq : sv (limbs 2 q) = q) :
    Calls Tryz.prog 113 #[vp, vq, .pointer (some ⟨bo, 0, none⟩), .pointer (some ⟨bu, 0, none⟩)] w (Gives (LimR 4 (xa * p + ya * q)) g0 w) := by
  have hw1 := hw.below hI0.below
  have HE0 := Lib.hid exa
  have HE1 := Lib.hid eya
  have HE2 := Lib.hid ep
  have HE3 := Lib.hid eq
  clear exa eya ep eq
  obtain ⟨W, hW⟩ : ∃ W, W = w := ⟨_, rfl⟩
  have hb0 : Below w.heap.size w W := by rw [hW]; exact (Below.refl _ _)
  have HOK := Ctx.ok_lift0 hI0 hb0
  have Fp_W_0 := Lib.hid ((limR_firm _ _) _ _ _ _ _ (hp) (keeps_lift0 hb0))
  have Fq_W_0 := Lib.hid ((limR_firm _ _) _ _ _ _ _ (hq) (keeps_lift0 hb0))
  have C2_W_0 := Lib.hid (show W.cell? ⟨bo, 0, none⟩ = some (.func (.func 110) #[] #[]) by rw [hW]; exact ho)
  have HO2 : Off (lift0 g0) (bo) := lift0_off oo
  have C3_W_0 := Lib.hid (show W.cell? ⟨bu, 0, none⟩ = some (.slice A 2 a) by rw [hW]; exact hu0)
  have C3_W_1 := Lib.hid (show W.cell? ⟨bu, 1, none⟩ = some (.slice B 2 b) by rw [hW]; exact hu1)
  have Fxa_W_01 := Lib.hid ((limR_firm _ _) _ _ _ _ _ (ua) (keeps_lift0 hb0))
  have Fya_W_11 := Lib.hid ((limR_firm _ _) _ _ _ _ _ (ub) (keeps_lift0 hb0))
  have HO3 : Off (lift0 g0) (bu) := lift0_off ou
  have HW := Lib.hid hW
  clear hW
  go_enter Tryz.func113, Tryz.ntmps113
  go_upto_region 1 with (fail)
  rw [← HW.out]
  refine box_plan (c := ⟨w, W, (lift0 g0)⟩) HOK (by kernel_rfl) [[], [], [(8, 1)], [], [(9, 2), (10, 3)], [], [(12, 5)], [], [(13, 6), (14, 7)], [(7, 0), (11, 4), (15, 8)], [(16, 9)]] [(7, 0), (8, 1), (9, 2), (10, 3), (11, 4), (12, 5), (13, 6), (14, 7), (15, 8), (16, 9), (6, 10)] [
      (fun v _ _ => v = .func (.func 110) #[] #[]),
      (fun v _ _ => v = .pointer (some ⟨bu, 0, none⟩)),
      (fun v _ _ => v = .slice A 2 a),
      (fun v _ _ => v = vp),
      LimR 4 (xa * p),
      (fun v _ _ => v = .pointer (some ⟨bu, 1, none⟩)),
      (fun v _ _ => v = .slice B 2 b),
      (fun v _ _ => v = vq),
      LimR 4 (ya * q),
      LimR 4 ((xa * p) + (ya * q)),
      LimR 4 ((xa * p) + (ya * q))
    ] (fun _ => none) (by kernel_rfl) (by kernel_rfl) ⟨stab_eq, stab_eq, stab_eq, stab_eq, stab_firm (limR_firm _ _), stab_eq, stab_eq, stab_eq, stab_firm (limR_firm _ _), stab_firm (limR_firm _ _), stab_firm (limR_firm _ _), trivial⟩ ?steps ?fin
  case steps =>
    refine ⟨?_, ?_, ?_, ?_, ?_, ?_, ?_, ?_, ?_, ?_, ?_, trivial⟩
    · intro vs g w2 hI hF hR K hK
      simp only [Facts, fill, Act.put, z1, z2, z3, z4, z5, Nat.reduceAdd] at hF hR hK ⊢
      have k0 := hI.cell C2_W_0.out (by first | exact HO2 | exact HO3)
      go_simp
      exact hK _ _ _ hI (Step.refl hI) rfl
    · intro vs g w2 hI hF hR K hK
      simp only [Facts, fill, Act.put, z1, z2, z3, z4, z5, Nat.reduceAdd] at hF hR hK ⊢
      go_simp
      exact hK _ _ _ hI (Step.refl hI) rfl
    · intro vs g w2 hI hF hR K hK
      simp only [Facts, fill, Act.put, z1, z2, z3, z4, z5, Nat.reduceAdd] at hF hR hK ⊢
      obtain ⟨r1, -⟩ := hR
      generalize vs 1 = x1 at *
      subst r1
      have k0 := hI.cell C3_W_0.out (by first | exact HO2 | exact HO3)
      go_simp
      exact hK _ _ _ hI (Step.refl hI) rfl
    · intro vs g w2 hI hF hR K hK
      simp only [Facts, fill, Act.put, z1, z2, z3, z4, z5, Nat.reduceAdd] at hF hR hK ⊢
      go_simp
      exact hK _ _ _ hI (Step.refl hI) rfl
    · intro vs g w2 hI hF hR K hK
      simp only [Facts, fill, Act.put, z1, z2, z3, z4, z5, Nat.reduceAdd] at hF hR hK ⊢
      obtain ⟨r2, r3, -⟩ := hR
      generalize vs 2 = x2, vs 3 = x3 at *
      subst r2 r3
      go_simp
      refine (gLimMul hI hw1 ((limR_firm _ _) _ _ _ _ _ Fxa_W_01.out hI.keeps) ((limR_firm _ _) _ _ _ _ _ Fp_W_0.out hI.keeps) (by first | exact HE0.out | exact HE1.out | exact HE2.out | exact HE3.out) (by first | exact HE0.out | exact HE1.out | exact HE2.out | exact HE3.out) (by decide) (by decide) (by decide) rfl).mono ?_
      rintro e w3 ⟨v3, rfl, hv, hb⟩
      exact hK _ _ _ (hI.call hb) (Step.call hI hb) hv
    · intro vs g w2 hI hF hR K hK
      simp only [Facts, fill, Act.put, z1, z2, z3, z4, z5, Nat.reduceAdd] at hF hR hK ⊢
      go_simp
      exact hK _ _ _ hI (Step.refl hI) rfl
    · intro vs g w2 hI hF hR K hK
      simp only [Facts, fill, Act.put, z1, z2, z3, z4, z5, Nat.reduceAdd] at hF hR hK ⊢
      obtain ⟨r5, -⟩ := hR
      generalize vs 5 = x5 at *
      subst r5
      have k0 := hI.cell C3_W_1.out (by first | exact HO2 | exact HO3)
      go_simp
      exact hK _ _ _ hI (Step.refl hI) rfl
    · intro vs g w2 hI hF hR K hK
      simp only [Facts, fill, Act.put, z1, z2, z3, z4, z5, Nat.reduceAdd] at hF hR hK ⊢
      go_simp
      exact hK _ _ _ hI (Step.refl hI) rfl
    · intro vs g w2 hI hF hR K hK
      simp only [Facts, fill, Act.put, z1, z2, z3, z4, z5, Nat.reduceAdd] at hF hR hK ⊢
      obtain ⟨r6, r7, -⟩ := hR
      generalize vs 6 = x6, vs 7 = x7 at *
      subst r6 r7
      go_simp
      refine (gLimMul hI hw1 ((limR_firm _ _) _ _ _ _ _ Fya_W_11.out hI.keeps) ((limR_firm _ _) _ _ _ _ _ Fq_W_0.out hI.keeps) (by first | exact HE0.out | exact HE1.out | exact HE2.out | exact HE3.out) (by first | exact HE0.out | exact HE1.out | exact HE2.out | exact HE3.out) (by decide) (by decide) (by decide) rfl).mono ?_
      rintro e w3 ⟨v3, rfl, hv, hb⟩
      exact hK _ _ _ (hI.call hb) (Step.call hI hb) hv
    · intro vs g w2 hI hF hR K hK
      simp only [Facts, fill, Act.put, z1, z2, z3, z4, z5, Nat.reduceAdd] at hF hR hK ⊢
      obtain ⟨r0, r4, r8, -⟩ := hR
      generalize vs 0 = x0, vs 4 = x4, vs 8 = x8 at *
      subst r0
      go_simp
      refine (gLimAdd hI hw1 r4 r8 (by decide) (by decide)).mono ?_
      rintro e w3 ⟨v3, rfl, hv, hb⟩
      exact hK _ _ _ (hI.call hb) (Step.call hI hb) hv
    · intro vs g w2 hI hF hR K hK
      simp only [Facts, fill, Act.put, z1, z2, z3, z4, z5, Nat.reduceAdd] at hF hR hK ⊢
      obtain ⟨r9, -⟩ := hR
      generalize vs 9 = x9 at *
      go_simp
      exact hK _ _ _ hI (Step.refl hI) r9
  case fin =>
    intro vs g wR1 hI hR
    have r10 := hR 10 (by decide)
    simp only [fill, Act.put, z1, z2, z3, z4, z5] at r10 ⊢
    clear hR
    generalize vs 10 = x10 at *
    have Fp_R1_0 := Lib.hid ((limR_firm _ _) _ _ _ _ _ Fp_W_0.out hI.carry)
    have Fq_R1_0 := Lib.hid ((limR_firm _ _) _ _ _ _ _ Fq_W_0.out hI.carry)
    have C2_R1_0 := Lib.hid (hI.cell C2_W_0.out (by first | exact HO2 | exact HO3))
    have C3_R1_0 := Lib.hid (hI.cell C3_W_0.out (by first | exact HO2 | exact HO3))
    have C3_R1_1 := Lib.hid (hI.cell C3_W_1.out (by first | exact HO2 | exact HO3))
    have Fxa_R1_01 := Lib.hid ((limR_firm _ _) _ _ _ _ _ Fxa_W_01.out hI.carry)
    have Fya_R1_11 := Lib.hid ((limR_firm _ _) _ _ _ _ _ Fya_W_11.out hI.carry)
    have qfR16 := r10
    obtain ⟨AvR16, cvR16, rfl⟩ := limR_open r10
    have FR16_R1_0 := Lib.hid ((limR_firm _ _) _ _ _ _ _ qfR16 hI.back)
    clear qfR16
    have hBR1 := hI.below
    have HCR1 := hI.next HOK
    clear hI
    go_wp2
    go_ret
    exact ⟨_, rfl, (limR_firm _ _) _ _ _ _ _ FR16_R1_0.out keeps_out0, hBR1⟩
set_option maxRecDepth 100000 in
set_option maxHeartbeats 4000000 in
theorem gCombSub {c0 : Ctx} {g0 : Gh} {w : World} {xa ya xb yb : Int} {va vb : Value} (hI0 : RInv c0 g0 w) (hw : Wts c0.W0) (ha : VecL xa ya va g0 w) (hb : VecL xb yb vb g0 w) (exa : sv (limbs 2 xa) = xa) (eya : sv (limbs 2 ya) = ya) (exb : sv (limbs 2 xb) = xb) (eyb : sv (limbs 2 yb) = yb) :
    Calls Tryz.prog 102 #[va, vb, .func (.func 103) #[] #[], .func (.func 104) #[] #[]] w (Gives (LimR 4 (xa * yb - ya * xb)) g0 w) := by
  have hw1 := hw.below hI0.below
  have qa := ha
  obtain ⟨A0, c0, B0, d0, rfl⟩ := vecL_open ha
  have qb := hb
  obtain ⟨A1, c1, B1, d1, rfl⟩ := vecL_open hb
  have HE0 := Lib.hid exa
  have HE1 := Lib.hid eya
  have HE2 := Lib.hid exb
  have HE3 := Lib.hid eyb
  clear exa eya exb eyb
  obtain ⟨W, hW⟩ : ∃ W, W = ((w.alloc (.cells #[.slice A0 2 c0, .slice B0 2 d0] 143)).alloc (.cells #[.slice A1 2 c1, .slice B1 2 d1] 143)).alloc (.cells #[.func (.func 104) #[] #[]] 159) := ⟨_, rfl⟩
  have hb0 : Below w.heap.size w W := by rw [hW]; exact ((((Below.refl _ _).alloc (Nat.le_refl _) _).alloc (by simp) _).alloc (by simp; omega) _)
  have HOK := Ctx.ok_lift0 hI0 hb0
  have C0_W_0 := Lib.hid (show W.cell? ⟨w.heap.size, 0, none⟩ = some (.slice A0 2 c0) by rw [hW]; simp [go_sem])
  have C0_W_1 := Lib.hid (show W.cell? ⟨w.heap.size, 1, none⟩ = some (.slice B0 2 d0) by rw [hW]; simp [go_sem])
  have Fxa_W_01 := Lib.hid ((limR_firm _ _) _ _ _ _ _ (vecL_x qa) (keeps_lift0 hb0))
  have Fya_W_11 := Lib.hid ((limR_firm _ _) _ _ _ _ _ (vecL_y qa) (keeps_lift0 hb0))
  have Fva_W_02 := Lib.hid ((vecL_firm _ _) _ _ _ _ _ (qa) (keeps_lift0 hb0))
  have HO0 : Off (lift0 g0) (w.heap.size) := lift0_off (hI0.offs _ (by omega))
  have C1_W_0 := Lib.hid (show W.cell? ⟨w.heap.size + 1, 0, none⟩ = some (.slice A1 2 c1) by rw [hW]; simp [go_sem])
  have C1_W_1 := Lib.hid (show W.cell? ⟨w.heap.size + 1, 1, none⟩ = some (.slice B1 2 d1) by rw [hW]; simp [go_sem])
  have Fxb_W_01 := Lib.hid ((limR_firm _ _) _ _ _ _ _ (vecL_x qb) (keeps_lift0 hb0))
  have Fyb_W_11 := Lib.hid ((limR_firm _ _) _ _ _ _ _ (vecL_y qb) (keeps_lift0 hb0))
  have Fvb_W_02 := Lib.hid ((vecL_firm _ _) _ _ _ _ _ (qb) (keeps_lift0 hb0))
  have HO1 : Off (lift0 g0) (w.heap.size + 1) := lift0_off (hI0.offs _ (by omega))
  have C3_W_0 := Lib.hid (show W.cell? ⟨w.heap.size + 1 + 1, 0, none⟩ = some (.func (.func 104) #[] #[]) by rw [hW]; simp [go_sem])
  have HO3 : Off (lift0 g0) (w.heap.size + 1 + 1) := lift0_off (hI0.offs _ (by omega))
  have HW := Lib.hid hW
  clear hW
  go_enter Tryz.func102, Tryz.ntmps102
  go_upto_region 1 with (fail)
  rw [← HW.out]
  refine box_plan0 (c := ⟨w, W, (lift0 g0)⟩) HOK [[], [(10, 0)], [(11, 1)], [(12, 2)], [(13, 3)], [(13, 3), (14, 4)], [(13, 3), (15, 5)], [(13, 3), (16, 6)]] [(10, 0), (11, 1), (12, 2), (13, 3), (14, 4), (15, 5), (16, 6), (17, 7)] [
      (fun v _ _ => v = .agg #[.slice A0 2 c0, .slice B0 2 d0]),
      (fun v _ _ => v = .bool true),
      (fun v _ _ => v = .bool false),
      (fun v _ _ => v = .bool false),
      (fun v _ _ => v = .agg #[.slice A1 2 c1, .slice B1 2 d1]),
      (fun v _ _ => v = .bool true),
      (fun v _ _ => v = .bool false),
      (fun v _ _ => v = .bool false)
    ] (fun _ => none) (by kernel_rfl) (by kernel_rfl) ⟨stab_eq, stab_eq, stab_eq, stab_eq, stab_eq, stab_eq, stab_eq, stab_eq, trivial⟩ ?steps ?fin
  case steps =>
    refine ⟨?_, ?_, ?_, ?_, ?_, ?_, ?_, ?_, trivial⟩
    · intro vs g w2 hI hF hR K hK
      simp only [Facts, fill, Act.put, z1, z2, z3, z4, z5, Nat.reduceAdd] at hF hR hK ⊢
      have k0 := hI.cell C0_W_0.out (by first | exact HO0 | exact HO1 | exact HO3)
      have k1 := hI.cell C0_W_1.out (by first | exact HO0 | exact HO1 | exact HO3)
      go_simp
      exact hK _ _ _ hI (Step.refl hI) rfl
    · intro vs g w2 hI hF hR K hK
      simp only [Facts, fill, Act.put, z1, z2, z3, z4, z5, Nat.reduceAdd] at hF hR hK ⊢
      obtain ⟨r0, -⟩ := hR
      generalize vs 0 = x0 at *
      subst r0
      go_simp
      refine (gIsVec hI).mono ?_
      rintro e w3 ⟨v3, rfl, hv, hb⟩
      exact hK _ _ _ (hI.call hb) (Step.call hI hb) hv
    · intro vs g w2 hI hF hR K hK
      simp only [Facts, fill, Act.put, z1, z2, z3, z4, z5, Nat.reduceAdd] at hF hR hK ⊢
      obtain ⟨r1, -⟩ := hR
      generalize vs 1 = x1 at *
      subst r1
      go_simp
      exact hK _ _ _ hI (Step.refl hI) rfl
    · intro vs g w2 hI hF hR K hK
      simp only [Facts, fill, Act.put, z1, z2, z3, z4, z5, Nat.reduceAdd] at hF hR hK ⊢
      obtain ⟨r2, -⟩ := hR
      generalize vs 2 = x2 at *
      subst r2
      go_simp
      exact hK _ _ _ hI (Step.refl hI) rfl
    · intro vs g w2 hI hF hR K hK
      simp only [Facts, fill, Act.put, z1, z2, z3, z4, z5, Nat.reduceAdd] at hF hR hK ⊢
      obtain ⟨r3, -⟩ := hR
      generalize vs 3 = x3 at *
      subst r3
      have k0 := hI.cell C1_W_0.out (by first | exact HO0 | exact HO1 | exact HO3)
      have k1 := hI.cell C1_W_1.out (by first | exact HO0 | exact HO1 | exact HO3)
      go_simp
      exact hK _ _ _ hI (Step.refl hI) rfl
    · intro vs g w2 hI hF hR K hK
      simp only [Facts, fill, Act.put, z1, z2, z3, z4, z5, Nat.reduceAdd] at hF hR hK ⊢
      obtain ⟨r3, r4, -⟩ := hR
      generalize vs 3 = x3, vs 4 = x4 at *
      subst r3 r4
      go_simp
      refine (gIsVec hI).mono ?_
      rintro e w3 ⟨v3, rfl, hv, hb⟩
      exact hK _ _ _ (hI.call hb) (Step.call hI hb) hv
    · intro vs g w2 hI hF hR K hK
      simp only [Facts, fill, Act.put, z1, z2, z3, z4, z5, Nat.reduceAdd] at hF hR hK ⊢
      obtain ⟨r3, r5, -⟩ := hR
      generalize vs 3 = x3, vs 5 = x5 at *
      subst r3 r5
      go_simp
      exact hK _ _ _ hI (Step.refl hI) rfl
    · intro vs g w2 hI hF hR K hK
      simp only [Facts, fill, Act.put, z1, z2, z3, z4, z5, Nat.reduceAdd] at hF hR hK ⊢
      obtain ⟨r3, r6, -⟩ := hR
      generalize vs 3 = x3, vs 6 = x6 at *
      subst r3 r6
      go_simp
      exact hK _ _ _ hI (Step.refl hI) rfl
  case fin =>
    intro vs g wR1 hI hR
    have r7 := hR 7 (by decide)
    simp only [fill, Act.put, z1, z2, z3, z4, z5] at r7 ⊢
    clear hR
    generalize vs 7 = x7 at *
    have C0_R1_0 := Lib.hid (hI.cell C0_W_0.out (by first | exact HO0 | exact HO1 | exact HO3))
    have C0_R1_1 := Lib.hid (hI.cell C0_W_1.out (by first | exact HO0 | exact HO1 | exact HO3))
    have Fxa_R1_01 := Lib.hid ((limR_firm _ _) _ _ _ _ _ Fxa_W_01.out hI.carry)
    have Fya_R1_11 := Lib.hid ((limR_firm _ _) _ _ _ _ _ Fya_W_11.out hI.carry)
    have Fva_R1_02 := Lib.hid ((vecL_firm _ _) _ _ _ _ _ Fva_W_02.out hI.carry)
    have C1_R1_0 := Lib.hid (hI.cell C1_W_0.out (by first | exact HO0 | exact HO1 | exact HO3))
    have C1_R1_1 := Lib.hid (hI.cell C1_W_1.out (by first | exact HO0 | exact HO1 | exact HO3))
    have Fxb_R1_01 := Lib.hid ((limR_firm _ _) _ _ _ _ _ Fxb_W_01.out hI.carry)
    have Fyb_R1_11 := Lib.hid ((limR_firm _ _) _ _ _ _ _ Fyb_W_11.out hI.carry)
    have Fvb_R1_02 := Lib.hid ((vecL_firm _ _) _ _ _ _ _ Fvb_W_02.out hI.carry)
    have C3_R1_0 := Lib.hid (hI.cell C3_W_0.out (by first | exact HO0 | exact HO1 | exact HO3))
    subst r7
    have hBR1 := hI.below
    have HCR1 := hI.next HOK
    clear hI
    go_upto_region 3 with (fail)
    refine box_plan0 (c := ⟨w, wR1, (lift0 g0)⟩) HCR1 [[], [(18, 0)]] [(18, 0), (9, 1)] [
        (fun v _ _ => v = .func (.func 113) #[] #[.pointer (some ⟨w.heap.size + 1 + 1, 0, none⟩), .pointer (some ⟨w.heap.size, 0, none⟩)]),
        (fun v _ _ => v = .func (.func 113) #[] #[.pointer (some ⟨w.heap.size + 1 + 1, 0, none⟩), .pointer (some ⟨w.heap.size, 0, none⟩)])
      ] (fun _ => none) (by kernel_rfl) (by kernel_rfl) ⟨stab_eq, stab_eq, trivial⟩ ?steps ?fin
    case steps =>
      refine ⟨?_, ?_, trivial⟩
      · intro vs g w2 hI hF hR K hK
        simp only [Facts, fill, Act.put, z1, z2, z3, z4, z5, Nat.reduceAdd] at hF hR hK ⊢
        have hmf : ∀ (fn : Fn) (first cap : Array Value) (w : World), (Instr.makeFunc fn first cap).run Tryz.prog w = .ok (.func fn first cap) w := fun _ _ _ _ => rfl
        go_simp
        exact hK _ _ _ hI (Step.refl hI) rfl
      · intro vs g w2 hI hF hR K hK
        simp only [Facts, fill, Act.put, z1, z2, z3, z4, z5, Nat.reduceAdd] at hF hR hK ⊢
        obtain ⟨r0, -⟩ := hR
        generalize vs 0 = x0 at *
        subst r0
        go_simp
        exact hK _ _ _ hI (Step.refl hI) rfl
    case fin =>
      intro vs g wR3 hI hR
      have r1 := hR 1 (by decide)
      simp only [fill, Act.put, z1, z2, z3, z4, z5] at r1 ⊢
      clear hR
      generalize vs 1 = x1 at *
      have C0_R3_0 := Lib.hid (hI.cell C0_R1_0.out (by first | exact HO0 | exact HO1 | exact HO3))
      have C0_R3_1 := Lib.hid (hI.cell C0_R1_1.out (by first | exact HO0 | exact HO1 | exact HO3))
      have Fxa_R3_01 := Lib.hid ((limR_firm _ _) _ _ _ _ _ Fxa_R1_01.out hI.carry)
      have Fya_R3_11 := Lib.hid ((limR_firm _ _) _ _ _ _ _ Fya_R1_11.out hI.carry)
      have Fva_R3_02 := Lib.hid ((vecL_firm _ _) _ _ _ _ _ Fva_R1_02.out hI.carry)
      have C1_R3_0 := Lib.hid (hI.cell C1_R1_0.out (by first | exact HO0 | exact HO1 | exact HO3))
      have C1_R3_1 := Lib.hid (hI.cell C1_R1_1.out (by first | exact HO0 | exact HO1 | exact HO3))
      have Fxb_R3_01 := Lib.hid ((limR_firm _ _) _ _ _ _ _ Fxb_R1_01.out hI.carry)
      have Fyb_R3_11 := Lib.hid ((limR_firm _ _) _ _ _ _ _ Fyb_R1_11.out hI.carry)
      have Fvb_R3_02 := Lib.hid ((vecL_firm _ _) _ _ _ _ _ Fvb_R1_02.out hI.carry)
      have C3_R3_0 := Lib.hid (hI.cell C3_R1_0.out (by first | exact HO0 | exact HO1 | exact HO3))
      subst r1
      have hBR3 := hI.below
      have HCR3 := hI.next HCR1
      clear hI
      go_upto_region 4 with (fail)
      refine box_plan0 (c := ⟨w, wR3, (lift0 g0)⟩) HCR3 [[], [], [], [(20, 1), (21, 2)], [(22, 3)], [(22, 3)], [(19, 0), (23, 4), (24, 5)], [(25, 6)]] [(19, 0), (20, 1), (21, 2), (22, 3), (23, 4), (24, 5), (25, 6), (8, 7)] [
          (fun v _ _ => v = .func (.func 113) #[] #[.pointer (some ⟨w.heap.size + 1 + 1, 0, none⟩), .pointer (some ⟨w.heap.size, 0, none⟩)]),
          (fun v _ _ => v = .func (.func 103) #[] #[]),
          (fun v _ _ => v = .agg #[.slice A1 2 c1, .slice B1 2 d1]),
          (fun v _ _ => v = .tuple #[.slice B1 2 d1, .slice A1 2 c1]),
          (fun v _ _ => v = .slice B1 2 d1),
          (fun v _ _ => v = .slice A1 2 c1),
          LimR 4 (xa * yb - ya * xb),
          LimR 4 (xa * yb - ya * xb)
        ] (fun _ => none) (by kernel_rfl) (by kernel_rfl) ⟨stab_eq, stab_eq, stab_eq, stab_eq, stab_eq, stab_eq, stab_firm (limR_firm _ _), stab_firm (limR_firm _ _), trivial⟩ ?steps ?fin
      case steps =>
        refine ⟨?_, ?_, ?_, ?_, ?_, ?_, ?_, ?_, trivial⟩
        · intro vs g w2 hI hF hR K hK
          simp only [Facts, fill, Act.put, z1, z2, z3, z4, z5, Nat.reduceAdd] at hF hR hK ⊢
          go_simp
          exact hK _ _ _ hI (Step.refl hI) rfl
        · intro vs g w2 hI hF hR K hK
          simp only [Facts, fill, Act.put, z1, z2, z3, z4, z5, Nat.reduceAdd] at hF hR hK ⊢
          go_simp
          exact hK _ _ _ hI (Step.refl hI) rfl
        · intro vs g w2 hI hF hR K hK
          simp only [Facts, fill, Act.put, z1, z2, z3, z4, z5, Nat.reduceAdd] at hF hR hK ⊢
          have k0 := hI.cell C1_R3_0.out (by first | exact HO0 | exact HO1 | exact HO3)
          have k1 := hI.cell C1_R3_1.out (by first | exact HO0 | exact HO1 | exact HO3)
          go_simp
          exact hK _ _ _ hI (Step.refl hI) rfl
        · intro vs g w2 hI hF hR K hK
          simp only [Facts, fill, Act.put, z1, z2, z3, z4, z5, Nat.reduceAdd] at hF hR hK ⊢
          obtain ⟨r1, r2, -⟩ := hR
          generalize vs 1 = x1, vs 2 = x2 at *
          subst r1 r2
          go_simp
          refine (gExchanged hI).mono ?_
          rintro e w3 ⟨v3, rfl, hv, hb⟩
          exact hK _ _ _ (hI.call hb) (Step.call hI hb) hv
        · intro vs g w2 hI hF hR K hK
          simp only [Facts, fill, Act.put, z1, z2, z3, z4, z5, Nat.reduceAdd] at hF hR hK ⊢
          obtain ⟨r3, -⟩ := hR
          generalize vs 3 = x3 at *
          subst r3
          go_simp
          exact hK _ _ _ hI (Step.refl hI) rfl
        · intro vs g w2 hI hF hR K hK
          simp only [Facts, fill, Act.put, z1, z2, z3, z4, z5, Nat.reduceAdd] at hF hR hK ⊢
          obtain ⟨r3, -⟩ := hR
          generalize vs 3 = x3 at *
          subst r3
          go_simp
          exact hK _ _ _ hI (Step.refl hI) rfl
        · intro vs g w2 hI hF hR K hK
          simp only [Facts, fill, Act.put, z1, z2, z3, z4, z5, Nat.reduceAdd] at hF hR hK ⊢
          obtain ⟨r0, r4, r5, -⟩ := hR
          generalize vs 0 = x0, vs 4 = x4, vs 5 = x5 at *
          subst r0 r4 r5
          go_simp
          refine (gCloSub hI hw1 (hI.cell C3_R3_0.out (by first | exact HO0 | exact HO1 | exact HO3)) (hI.cell C0_R3_0.out (by first | exact HO0 | exact HO1 | exact HO3)) (hI.cell C0_R3_1.out (by first | exact HO0 | exact HO1 | exact HO3)) (hI.off_at C3_R3_0.out (by first | exact HO0 | exact HO1 | exact HO3)) (hI.off_at C0_R3_0.out (by first | exact HO0 | exact HO1 | exact HO3)) (limR_firm _ _ _ _ _ _ _ Fxa_R3_01.out hI.keeps) (limR_firm _ _ _ _ _ _ _ Fya_R3_11.out hI.keeps) ((limR_firm _ _) _ _ _ _ _ Fyb_R3_11.out hI.keeps) ((limR_firm _ _) _ _ _ _ _ Fxb_R3_01.out hI.keeps) (by first | exact HE0.out | exact HE1.out | exact HE2.out | exact HE3.out) (by first | exact HE0.out | exact HE1.out | exact HE2.out | exact HE3.out) (by first | exact HE0.out | exact HE1.out | exact HE2.out | exact HE3.out) (by first | exact HE0.out | exact HE1.out | exact HE2.out | exact HE3.out)).mono ?_
          rintro e w3 ⟨v3, rfl, hv, hb⟩
          exact hK _ _ _ (hI.call hb) (Step.call hI hb) hv
        · intro vs g w2 hI hF hR K hK
          simp only [Facts, fill, Act.put, z1, z2, z3, z4, z5, Nat.reduceAdd] at hF hR hK ⊢
          obtain ⟨r6, -⟩ := hR
          generalize vs 6 = x6 at *
          go_simp
          exact hK _ _ _ hI (Step.refl hI) r6
      case fin =>
        intro vs g wR4 hI hR
        have r7 := hR 7 (by decide)
        simp only [fill, Act.put, z1, z2, z3, z4, z5] at r7 ⊢
        clear hR
        generalize vs 7 = x7 at *
        have C0_R4_0 := Lib.hid (hI.cell C0_R3_0.out (by first | exact HO0 | exact HO1 | exact HO3))
        have C0_R4_1 := Lib.hid (hI.cell C0_R3_1.out (by first | exact HO0 | exact HO1 | exact HO3))
        have Fxa_R4_01 := Lib.hid ((limR_firm _ _) _ _ _ _ _ Fxa_R3_01.out hI.carry)
        have Fya_R4_11 := Lib.hid ((limR_firm _ _) _ _ _ _ _ Fya_R3_11.out hI.carry)
        have Fva_R4_02 := Lib.hid ((vecL_firm _ _) _ _ _ _ _ Fva_R3_02.out hI.carry)
        have C1_R4_0 := Lib.hid (hI.cell C1_R3_0.out (by first | exact HO0 | exact HO1 | exact HO3))
        have C1_R4_1 := Lib.hid (hI.cell C1_R3_1.out (by first | exact HO0 | exact HO1 | exact HO3))
        have Fxb_R4_01 := Lib.hid ((limR_firm _ _) _ _ _ _ _ Fxb_R3_01.out hI.carry)
        have Fyb_R4_11 := Lib.hid ((limR_firm _ _) _ _ _ _ _ Fyb_R3_11.out hI.carry)
        have Fvb_R4_02 := Lib.hid ((vecL_firm _ _) _ _ _ _ _ Fvb_R3_02.out hI.carry)
        have C3_R4_0 := Lib.hid (hI.cell C3_R3_0.out (by first | exact HO0 | exact HO1 | exact HO3))
        have qfR48 := r7
        obtain ⟨AvR48, cvR48, rfl⟩ := limR_open r7
        have FR48_R4_0 := Lib.hid ((limR_firm _ _) _ _ _ _ _ qfR48 hI.back)
        clear qfR48
        have hBR4 := hI.below
        have HCR4 := hI.next HCR3
        clear hI
        go_wp2
        go_ret
        exact ⟨_, rfl, (limR_firm _ _) _ _ _ _ _ FR48_R4_0.out keeps_out0, hBR4⟩
set_option maxRecDepth 100000 in
set_option maxHeartbeats 4000000 in
theorem gCombAdd {c0 : Ctx} {g0 : Gh} {w : World} {xa ya xb yb : Int} {va vb : Value} (hI0 : RInv c0 g0 w) (hw : Wts c0.W0) (ha : VecL xa ya va g0 w) (hb : VecL xb yb vb g0 w) (exa : sv (limbs 2 xa) = xa) (eya : sv (limbs 2 ya) = ya) (exb : sv (limbs 2 xb) = xb) (eyb : sv (limbs 2 yb) = yb) :
    Calls Tryz.prog 102 #[va, vb, .func (.func 136) #[] #[], .func (.func 110) #[] #[]] w (Gives (LimR 4 (xa * xb + ya * yb)) g0 w) := by
  have hw1 := hw.below hI0.below
  have qa := ha
  obtain ⟨A0, c0, B0, d0, rfl⟩ := vecL_open ha
  have qb := hb
  obtain ⟨A1, c1, B1, d1, rfl⟩ := vecL_open hb
  have HE0 := Lib.hid exa
  have HE1 := Lib.hid eya
  have HE2 := Lib.hid exb
  have HE3 := Lib.hid eyb
  clear exa eya exb eyb
  obtain ⟨W, hW⟩ : ∃ W, W = ((w.alloc (.cells #[.slice A0 2 c0, .slice B0 2 d0] 143)).alloc (.cells #[.slice A1 2 c1, .slice B1 2 d1] 143)).alloc (.cells #[.func (.func 110) #[] #[]] 159) := ⟨_, rfl⟩
  have hb0 : Below w.heap.size w W := by rw [hW]; exact ((((Below.refl _ _).alloc (Nat.le_refl _) _).alloc (by simp) _).alloc (by simp; omega) _)
  have HOK := Ctx.ok_lift0 hI0 hb0
  have C0_W_0 := Lib.hid (show W.cell? ⟨w.heap.size, 0, none⟩ = some (.slice A0 2 c0) by rw [hW]; simp [go_sem])
  have C0_W_1 := Lib.hid (show W.cell? ⟨w.heap.size, 1, none⟩ = some (.slice B0 2 d0) by rw [hW]; simp [go_sem])
  have Fxa_W_01 := Lib.hid ((limR_firm _ _) _ _ _ _ _ (vecL_x qa) (keeps_lift0 hb0))
  have Fya_W_11 := Lib.hid ((limR_firm _ _) _ _ _ _ _ (vecL_y qa) (keeps_lift0 hb0))
  have Fva_W_02 := Lib.hid ((vecL_firm _ _) _ _ _ _ _ (qa) (keeps_lift0 hb0))
  have HO0 : Off (lift0 g0) (w.heap.size) := lift0_off (hI0.offs _ (by omega))
  have C1_W_0 := Lib.hid (show W.cell? ⟨w.heap.size + 1, 0, none⟩ = some (.slice A1 2 c1) by rw [hW]; simp [go_sem])
  have C1_W_1 := Lib.hid (show W.cell? ⟨w.heap.size + 1, 1, none⟩ = some (.slice B1 2 d1) by rw [hW]; simp [go_sem])
  have Fxb_W_01 := Lib.hid ((limR_firm _ _) _ _ _ _ _ (vecL_x qb) (keeps_lift0 hb0))
  have Fyb_W_11 := Lib.hid ((limR_firm _ _) _ _ _ _ _ (vecL_y qb) (keeps_lift0 hb0))
  have Fvb_W_02 := Lib.hid ((vecL_firm _ _) _ _ _ _ _ (qb) (keeps_lift0 hb0))
  have HO1 : Off (lift0 g0) (w.heap.size + 1) := lift0_off (hI0.offs _ (by omega))
  have C3_W_0 := Lib.hid (show W.cell? ⟨w.heap.size + 1 + 1, 0, none⟩ = some (.func (.func 110) #[] #[]) by rw [hW]; simp [go_sem])
  have HO3 : Off (lift0 g0) (w.heap.size + 1 + 1) := lift0_off (hI0.offs _ (by omega))
  have HW := Lib.hid hW
  clear hW
  go_enter Tryz.func102, Tryz.ntmps102
  go_upto_region 1 with (fail)
  rw [← HW.out]
  refine box_plan0 (c := ⟨w, W, (lift0 g0)⟩) HOK [[], [(10, 0)], [(11, 1)], [(12, 2)], [(13, 3)], [(13, 3), (14, 4)], [(13, 3), (15, 5)], [(13, 3), (16, 6)]] [(10, 0), (11, 1), (12, 2), (13, 3), (14, 4), (15, 5), (16, 6), (17, 7)] [
      (fun v _ _ => v = .agg #[.slice A0 2 c0, .slice B0 2 d0]),
      (fun v _ _ => v = .bool true),
      (fun v _ _ => v = .bool false),
      (fun v _ _ => v = .bool false),
      (fun v _ _ => v = .agg #[.slice A1 2 c1, .slice B1 2 d1]),
      (fun v _ _ => v = .bool true),
      (fun v _ _ => v = .bool false),
      (fun v _ _ => v = .bool false)
    ] (fun _ => none) (by kernel_rfl) (by kernel_rfl) ⟨stab_eq, stab_eq, stab_eq, stab_eq, stab_eq, stab_eq, stab_eq, stab_eq, trivial⟩ ?steps ?fin
  case steps =>
    refine ⟨?_, ?_, ?_, ?_, ?_, ?_, ?_, ?_, trivial⟩
    · intro vs g w2 hI hF hR K hK
      simp only [Facts, fill, Act.put, z1, z2, z3, z4, z5, Nat.reduceAdd] at hF hR hK ⊢
      have k0 := hI.cell C0_W_0.out (by first | exact HO0 | exact HO1 | exact HO3)
      have k1 := hI.cell C0_W_1.out (by first | exact HO0 | exact HO1 | exact HO3)
      go_simp
      exact hK _ _ _ hI (Step.refl hI) rfl
    · intro vs g w2 hI hF hR K hK
      simp only [Facts, fill, Act.put, z1, z2, z3, z4, z5, Nat.reduceAdd] at hF hR hK ⊢
      obtain ⟨r0, -⟩ := hR
      generalize vs 0 = x0 at *
      subst r0
      go_simp
      refine (gIsVec hI).mono ?_
      rintro e w3 ⟨v3, rfl, hv, hb⟩
      exact hK _ _ _ (hI.call hb) (Step.call hI hb) hv
    · intro vs g w2 hI hF hR K hK
      simp only [Facts, fill, Act.put, z1, z2, z3, z4, z5, Nat.reduceAdd] at hF hR hK ⊢
      obtain ⟨r1, -⟩ := hR
      generalize vs 1 = x1 at *
      subst r1
      go_simp
      exact hK _ _ _ hI (Step.refl hI) rfl
    · intro vs g w2 hI hF hR K hK
      simp only [Facts, fill, Act.put, z1, z2, z3, z4, z5, Nat.reduceAdd] at hF hR hK ⊢
      obtain ⟨r2, -⟩ := hR
      generalize vs 2 = x2 at *
      subst r2
      go_simp
      exact hK _ _ _ hI (Step.refl hI) rfl
    · intro vs g w2 hI hF hR K hK
      simp only [Facts, fill, Act.put, z1, z2, z3, z4, z5, Nat.reduceAdd] at hF hR hK ⊢
      obtain ⟨r3, -⟩ := hR
      generalize vs 3 = x3 at *
      subst r3
      have k0 := hI.cell C1_W_0.out (by first | exact HO0 | exact HO1 | exact HO3)
      have k1 := hI.cell C1_W_1.out (by first | exact HO0 | exact HO1 | exact HO3)
      go_simp
      exact hK _ _ _ hI (Step.refl hI) rfl
    · intro vs g w2 hI hF hR K hK
      simp only [Facts, fill, Act.put, z1, z2, z3, z4, z5, Nat.reduceAdd] at hF hR hK ⊢
      obtain ⟨r3, r4, -⟩ := hR
      generalize vs 3 = x3, vs 4 = x4 at *
      subst r3 r4
      go_simp
      refine (gIsVec hI).mono ?_
      rintro e w3 ⟨v3, rfl, hv, hb⟩
      exact hK _ _ _ (hI.call hb) (Step.call hI hb) hv
    · intro vs g w2 hI hF hR K hK
      simp only [Facts, fill, Act.put, z1, z2, z3, z4, z5, Nat.reduceAdd] at hF hR hK ⊢
      obtain ⟨r3, r5, -⟩ := hR
      generalize vs 3 = x3, vs 5 = x5 at *
      subst r3 r5
      go_simp
      exact hK _ _ _ hI (Step.refl hI) rfl
    · intro vs g w2 hI hF hR K hK
      simp only [Facts, fill, Act.put, z1, z2, z3, z4, z5, Nat.reduceAdd] at hF hR hK ⊢
      obtain ⟨r3, r6, -⟩ := hR
      generalize vs 3 = x3, vs 6 = x6 at *
      subst r3 r6
      go_simp
      exact hK _ _ _ hI (Step.refl hI) rfl
  case fin =>
    intro vs g wR1 hI hR
    have r7 := hR 7 (by decide)
    simp only [fill, Act.put, z1, z2, z3, z4, z5] at r7 ⊢
    clear hR
    generalize vs 7 = x7 at *
    have C0_R1_0 := Lib.hid (hI.cell C0_W_0.out (by first | exact HO0 | exact HO1 | exact HO3))
    have C0_R1_1 := Lib.hid (hI.cell C0_W_1.out (by first | exact HO0 | exact HO1 | exact HO3))
    have Fxa_R1_01 := Lib.hid ((limR_firm _ _) _ _ _ _ _ Fxa_W_01.out hI.carry)
    have Fya_R1_11 := Lib.hid ((limR_firm _ _) _ _ _ _ _ Fya_W_11.out hI.carry)
    have Fva_R1_02 := Lib.hid ((vecL_firm _ _) _ _ _ _ _ Fva_W_02.out hI.carry)
    have C1_R1_0 := Lib.hid (hI.cell C1_W_0.out (by first | exact HO0 | exact HO1 | exact HO3))
    have C1_R1_1 := Lib.hid (hI.cell C1_W_1.out (by first | exact HO0 | exact HO1 | exact HO3))
    have Fxb_R1_01 := Lib.hid ((limR_firm _ _) _ _ _ _ _ Fxb_W_01.out hI.carry)
    have Fyb_R1_11 := Lib.hid ((limR_firm _ _) _ _ _ _ _ Fyb_W_11.out hI.carry)
    have Fvb_R1_02 := Lib.hid ((vecL_firm _ _) _ _ _ _ _ Fvb_W_02.out hI.carry)
    have C3_R1_0 := Lib.hid (hI.cell C3_W_0.out (by first | exact HO0 | exact HO1 | exact HO3))
    subst r7
    have hBR1 := hI.below
    have HCR1 := hI.next HOK
    clear hI
    go_upto_region 3 with (fail)
    refine box_plan0 (c := ⟨w, wR1, (lift0 g0)⟩) HCR1 [[], [(18, 0)]] [(18, 0), (9, 1)] [
        (fun v _ _ => v = .func (.func 113) #[] #[.pointer (some ⟨w.heap.size + 1 + 1, 0, none⟩), .pointer (some ⟨w.heap.size, 0, none⟩)]),
        (fun v _ _ => v = .func (.func 113) #[] #[.pointer (some ⟨w.heap.size + 1 + 1, 0, none⟩), .pointer (some ⟨w.heap.size, 0, none⟩)])
      ] (fun _ => none) (by kernel_rfl) (by kernel_rfl) ⟨stab_eq, stab_eq, trivial⟩ ?steps ?fin
    case steps =>
      refine ⟨?_, ?_, trivial⟩
      · intro vs g w2 hI hF hR K hK
        simp only [Facts, fill, Act.put, z1, z2, z3, z4, z5, Nat.reduceAdd] at hF hR hK ⊢
        have hmf : ∀ (fn : Fn) (first cap : Array Value) (w : World), (Instr.makeFunc fn first cap).run Tryz.prog w = .ok (.func fn first cap) w := fun _ _ _ _ => rfl
        go_simp
        exact hK _ _ _ hI (Step.refl hI) rfl
      · intro vs g w2 hI hF hR K hK
        simp only [Facts, fill, Act.put, z1, z2, z3, z4, z5, Nat.reduceAdd] at hF hR hK ⊢
        obtain ⟨r0, -⟩ := hR
        generalize vs 0 = x0 at *
        subst r0
        go_simp
        exact hK _ _ _ hI (Step.refl hI) rfl
    case fin =>
      intro vs g wR3 hI hR
      have r1 := hR 1 (by decide)
      simp only [fill, Act.put, z1, z2, z3, z4, z5] at r1 ⊢
      clear hR
      generalize vs 1 = x1 at *
      have C0_R3_0 := Lib.hid (hI.cell C0_R1_0.out (by first | exact HO0 | exact HO1 | exact HO3))
      have C0_R3_1 := Lib.hid (hI.cell C0_R1_1.out (by first | exact HO0 | exact HO1 | exact HO3))
      have Fxa_R3_01 := Lib.hid ((limR_firm _ _) _ _ _ _ _ Fxa_R1_01.out hI.carry)
      have Fya_R3_11 := Lib.hid ((limR_firm _ _) _ _ _ _ _ Fya_R1_11.out hI.carry)
      have Fva_R3_02 := Lib.hid ((vecL_firm _ _) _ _ _ _ _ Fva_R1_02.out hI.carry)
      have C1_R3_0 := Lib.hid (hI.cell C1_R1_0.out (by first | exact HO0 | exact HO1 | exact HO3))
      have C1_R3_1 := Lib.hid (hI.cell C1_R1_1.out (by first | exact HO0 | exact HO1 | exact HO3))
      have Fxb_R3_01 := Lib.hid ((limR_firm _ _) _ _ _ _ _ Fxb_R1_01.out hI.carry)
      have Fyb_R3_11 := Lib.hid ((limR_firm _ _) _ _ _ _ _ Fyb_R1_11.out hI.carry)
      have Fvb_R3_02 := Lib.hid ((vecL_firm _ _) _ _ _ _ _ Fvb_R1_02.out hI.carry)
      have C3_R3_0 := Lib.hid (hI.cell C3_R1_0.out (by first | exact HO0 | exact HO1 | exact HO3))
      subst r1
      have hBR3 := hI.below
      have HCR3 := hI.next HCR1
      clear hI
      go_upto_region 4 with (fail)
      refine box_plan0 (c := ⟨w, wR3, (lift0 g0)⟩) HCR3 [[], [], [], [(20, 1), (21, 2)], [(22, 3)], [(22, 3)], [(19, 0), (23, 4), (24, 5)], [(25, 6)]] [(19, 0), (20, 1), (21, 2), (22, 3), (23, 4), (24, 5), (25, 6), (8, 7)] [
          (fun v _ _ => v = .func (.func 113) #[] #[.pointer (some ⟨w.heap.size + 1 + 1, 0, none⟩), .pointer (some ⟨w.heap.size, 0, none⟩)]),
          (fun v _ _ => v = .func (.func 136) #[] #[]),
          (fun v _ _ => v = .agg #[.slice A1 2 c1, .slice B1 2 d1]),
          (fun v _ _ => v = .tuple #[.slice A1 2 c1, .slice B1 2 d1]),
          (fun v _ _ => v = .slice A1 2 c1),
          (fun v _ _ => v = .slice B1 2 d1),
          LimR 4 (xa * xb + ya * yb),
          LimR 4 (xa * xb + ya * yb)
        ] (fun _ => none) (by kernel_rfl) (by kernel_rfl) ⟨stab_eq, stab_eq, stab_eq, stab_eq, stab_eq, stab_eq, stab_firm (limR_firm _ _), stab_firm (limR_firm _ _), trivial⟩ ?steps ?fin
      case steps =>
        refine ⟨?_, ?_, ?_, ?_, ?_, ?_, ?_, ?_, trivial⟩
        · intro vs g w2 hI hF hR K hK
          simp only [Facts, fill, Act.put, z1, z2, z3, z4, z5, Nat.reduceAdd] at hF hR hK ⊢
          go_simp
          exact hK _ _ _ hI (Step.refl hI) rfl
        · intro vs g w2 hI hF hR K hK
          simp only [Facts, fill, Act.put, z1, z2, z3, z4, z5, Nat.reduceAdd] at hF hR hK ⊢
          go_simp
          exact hK _ _ _ hI (Step.refl hI) rfl
        · intro vs g w2 hI hF hR K hK
          simp only [Facts, fill, Act.put, z1, z2, z3, z4, z5, Nat.reduceAdd] at hF hR hK ⊢
          have k0 := hI.cell C1_R3_0.out (by first | exact HO0 | exact HO1 | exact HO3)
          have k1 := hI.cell C1_R3_1.out (by first | exact HO0 | exact HO1 | exact HO3)
          go_simp
          exact hK _ _ _ hI (Step.refl hI) rfl
        · intro vs g w2 hI hF hR K hK
          simp only [Facts, fill, Act.put, z1, z2, z3, z4, z5, Nat.reduceAdd] at hF hR hK ⊢
          obtain ⟨r1, r2, -⟩ := hR
          generalize vs 1 = x1, vs 2 = x2 at *
          subst r1 r2
          go_simp
          refine (gCoordinates hI).mono ?_
          rintro e w3 ⟨v3, rfl, hv, hb⟩
          exact hK _ _ _ (hI.call hb) (Step.call hI hb) hv
        · intro vs g w2 hI hF hR K hK
          simp only [Facts, fill, Act.put, z1, z2, z3, z4, z5, Nat.reduceAdd] at hF hR hK ⊢
          obtain ⟨r3, -⟩ := hR
          generalize vs 3 = x3 at *
          subst r3
          go_simp
          exact hK _ _ _ hI (Step.refl hI) rfl
        · intro vs g w2 hI hF hR K hK
          simp only [Facts, fill, Act.put, z1, z2, z3, z4, z5, Nat.reduceAdd] at hF hR hK ⊢
          obtain ⟨r3, -⟩ := hR
          generalize vs 3 = x3 at *
          subst r3
          go_simp
          exact hK _ _ _ hI (Step.refl hI) rfl
        · intro vs g w2 hI hF hR K hK
          simp only [Facts, fill, Act.put, z1, z2, z3, z4, z5, Nat.reduceAdd] at hF hR hK ⊢
          obtain ⟨r0, r4, r5, -⟩ := hR
          generalize vs 0 = x0, vs 4 = x4, vs 5 = x5 at *
          subst r0 r4 r5
          go_simp
          refine (gCloAdd hI hw1 (hI.cell C3_R3_0.out (by first | exact HO0 | exact HO1 | exact HO3)) (hI.cell C0_R3_0.out (by first | exact HO0 | exact HO1 | exact HO3)) (hI.cell C0_R3_1.out (by first | exact HO0 | exact HO1 | exact HO3)) (hI.off_at C3_R3_0.out (by first | exact HO0 | exact HO1 | exact HO3)) (hI.off_at C0_R3_0.out (by first | exact HO0 | exact HO1 | exact HO3)) (limR_firm _ _ _ _ _ _ _ Fxa_R3_01.out hI.keeps) (limR_firm _ _ _ _ _ _ _ Fya_R3_11.out hI.keeps) ((limR_firm _ _) _ _ _ _ _ Fxb_R3_01.out hI.keeps) ((limR_firm _ _) _ _ _ _ _ Fyb_R3_11.out hI.keeps) (by first | exact HE0.out | exact HE1.out | exact HE2.out | exact HE3.out) (by first | exact HE0.out | exact HE1.out | exact HE2.out | exact HE3.out) (by first | exact HE0.out | exact HE1.out | exact HE2.out | exact HE3.out) (by first | exact HE0.out | exact HE1.out | exact HE2.out | exact HE3.out)).mono ?_
          rintro e w3 ⟨v3, rfl, hv, hb⟩
          exact hK _ _ _ (hI.call hb) (Step.call hI hb) hv
        · intro vs g w2 hI hF hR K hK
          simp only [Facts, fill, Act.put, z1, z2, z3, z4, z5, Nat.reduceAdd] at hF hR hK ⊢
          obtain ⟨r6, -⟩ := hR
          generalize vs 6 = x6 at *
          go_simp
          exact hK _ _ _ hI (Step.refl hI) r6
      case fin =>
        intro vs g wR4 hI hR
        have r7 := hR 7 (by decide)
        simp only [fill, Act.put, z1, z2, z3, z4, z5] at r7 ⊢
        clear hR
        generalize vs 7 = x7 at *
        have C0_R4_0 := Lib.hid (hI.cell C0_R3_0.out (by first | exact HO0 | exact HO1 | exact HO3))
        have C0_R4_1 := Lib.hid (hI.cell C0_R3_1.out (by first | exact HO0 | exact HO1 | exact HO3))
        have Fxa_R4_01 := Lib.hid ((limR_firm _ _) _ _ _ _ _ Fxa_R3_01.out hI.carry)
        have Fya_R4_11 := Lib.hid ((limR_firm _ _) _ _ _ _ _ Fya_R3_11.out hI.carry)
        have Fva_R4_02 := Lib.hid ((vecL_firm _ _) _ _ _ _ _ Fva_R3_02.out hI.carry)
        have C1_R4_0 := Lib.hid (hI.cell C1_R3_0.out (by first | exact HO0 | exact HO1 | exact HO3))
        have C1_R4_1 := Lib.hid (hI.cell C1_R3_1.out (by first | exact HO0 | exact HO1 | exact HO3))
        have Fxb_R4_01 := Lib.hid ((limR_firm _ _) _ _ _ _ _ Fxb_R3_01.out hI.carry)
        have Fyb_R4_11 := Lib.hid ((limR_firm _ _) _ _ _ _ _ Fyb_R3_11.out hI.carry)
        have Fvb_R4_02 := Lib.hid ((vecL_firm _ _) _ _ _ _ _ Fvb_R3_02.out hI.carry)
        have C3_R4_0 := Lib.hid (hI.cell C3_R3_0.out (by first | exact HO0 | exact HO1 | exact HO3))
        have qfR48 := r7
        obtain ⟨AvR48, cvR48, rfl⟩ := limR_open r7
        have FR48_R4_0 := Lib.hid ((limR_firm _ _) _ _ _ _ _ qfR48 hI.back)
        clear qfR48
        have hBR4 := hI.below
        have HCR4 := hI.next HCR3
        clear hI
        go_wp2
        go_ret
        exact ⟨_, rfl, (limR_firm _ _) _ _ _ _ _ FR48_R4_0.out keeps_out0, hBR4⟩
set_option maxRecDepth 100000 in
set_option maxHeartbeats 4000000 in
theorem gCross {c0 : Ctx} {g0 : Gh} {w : World} {xa ya xb yb : Int} {va vb : Value} (hI0 : RInv c0 g0 w) (hw : Wts c0.W0) (ha : VecL xa ya va g0 w) (hb : VecL xb yb vb g0 w) (exa : sv (limbs 2 xa) = xa) (eya : sv (limbs 2 ya) = ya) (exb : sv (limbs 2 xb) = xb) (eyb : sv (limbs 2 yb) = yb) :
    Calls Tryz.prog 90 #[va, vb] w (Gives (LimR 4 (xa * yb - ya * xb)) g0 w) := by
  have hw1 := hw.below hI0.below
  have qa := ha
  obtain ⟨A0, c0, B0, d0, rfl⟩ := vecL_open ha
  have qb := hb
  obtain ⟨A1, c1, B1, d1, rfl⟩ := vecL_open hb
  have HE0 := Lib.hid exa
  have HE1 := Lib.hid eya
  have HE2 := Lib.hid exb
  have HE3 := Lib.hid eyb
  clear exa eya exb eyb
  obtain ⟨W, hW⟩ : ∃ W, W = (w.alloc (.cells #[.slice A0 2 c0, .slice B0 2 d0] 143)).alloc (.cells #[.slice A1 2 c1, .slice B1 2 d1] 143) := ⟨_, rfl⟩
  have hb0 : Below w.heap.size w W := by rw [hW]; exact (((Below.refl _ _).alloc (Nat.le_refl _) _).alloc (by simp) _)
  have HOK := Ctx.ok_lift0 hI0 hb0
  have C0_W_0 := Lib.hid (show W.cell? ⟨w.heap.size, 0, none⟩ = some (.slice A0 2 c0) by rw [hW]; simp [go_sem])
  have C0_W_1 := Lib.hid (show W.cell? ⟨w.heap.size, 1, none⟩ = some (.slice B0 2 d0) by rw [hW]; simp [go_sem])
  have Fxa_W_01 := Lib.hid ((limR_firm _ _) _ _ _ _ _ (vecL_x qa) (keeps_lift0 hb0))
  have Fya_W_11 := Lib.hid ((limR_firm _ _) _ _ _ _ _ (vecL_y qa) (keeps_lift0 hb0))
  have Fva_W_02 := Lib.hid ((vecL_firm _ _) _ _ _ _ _ (qa) (keeps_lift0 hb0))
  have HO0 : Off (lift0 g0) (w.heap.size) := lift0_off (hI0.offs _ (by omega))
  have C1_W_0 := Lib.hid (show W.cell? ⟨w.heap.size + 1, 0, none⟩ = some (.slice A1 2 c1) by rw [hW]; simp [go_sem])
  have C1_W_1 := Lib.hid (show W.cell? ⟨w.heap.size + 1, 1, none⟩ = some (.slice B1 2 d1) by rw [hW]; simp [go_sem])
  have Fxb_W_01 := Lib.hid ((limR_firm _ _) _ _ _ _ _ (vecL_x qb) (keeps_lift0 hb0))
  have Fyb_W_11 := Lib.hid ((limR_firm _ _) _ _ _ _ _ (vecL_y qb) (keeps_lift0 hb0))
  have Fvb_W_02 := Lib.hid ((vecL_firm _ _) _ _ _ _ _ (qb) (keeps_lift0 hb0))
  have HO1 : Off (lift0 g0) (w.heap.size + 1) := lift0_off (hI0.offs _ (by omega))
  have HW := Lib.hid hW
  clear hW
  go_enter Tryz.func90, Tryz.ntmps90
  go_upto_region 1 with (fail)
  rw [← HW.out]
  refine box_plan0 (c := ⟨w, W, (lift0 g0)⟩) HOK [[], [], [(5, 0), (6, 1)], [(7, 2)]] [(5, 0), (6, 1), (7, 2), (4, 3)] [
      (fun v _ _ => v = .agg #[.slice A0 2 c0, .slice B0 2 d0]),
      (fun v _ _ => v = .agg #[.slice A1 2 c1, .slice B1 2 d1]),
      LimR 4 (xa * yb - ya * xb),
      LimR 4 (xa * yb - ya * xb)
    ] (fun _ => none) (by kernel_rfl) (by kernel_rfl) ⟨stab_eq, stab_eq, stab_firm (limR_firm _ _), stab_firm (limR_firm _ _), trivial⟩ ?steps ?fin
  case steps =>
    refine ⟨?_, ?_, ?_, ?_, trivial⟩
    · intro vs g w2 hI hF hR K hK
      simp only [Facts, fill, Act.put, z1, z2, z3, z4, z5, Nat.reduceAdd] at hF hR hK ⊢
      have k0 := hI.cell C0_W_0.out (by first | exact HO0 | exact HO1)
      have k1 := hI.cell C0_W_1.out (by first | exact HO0 | exact HO1)
      go_simp
      exact hK _ _ _ hI (Step.refl hI) rfl
    · intro vs g w2 hI hF hR K hK
      simp only [Facts, fill, Act.put, z1, z2, z3, z4, z5, Nat.reduceAdd] at hF hR hK ⊢
      have k0 := hI.cell C1_W_0.out (by first | exact HO0 | exact HO1)
      have k1 := hI.cell C1_W_1.out (by first | exact HO0 | exact HO1)
      go_simp
      exact hK _ _ _ hI (Step.refl hI) rfl
    · intro vs g w2 hI hF hR K hK
      simp only [Facts, fill, Act.put, z1, z2, z3, z4, z5, Nat.reduceAdd] at hF hR hK ⊢
      obtain ⟨r0, r1, -⟩ := hR
      generalize vs 0 = x0, vs 1 = x1 at *
      subst r0 r1
      go_simp
      refine (gCombSub hI hw1 ((vecL_firm _ _) _ _ _ _ _ Fva_W_02.out hI.keeps) ((vecL_firm _ _) _ _ _ _ _ Fvb_W_02.out hI.keeps) (by first | exact HE0.out | exact HE1.out | exact HE2.out | exact HE3.out) (by first | exact HE0.out | exact HE1.out | exact HE2.out | exact HE3.out) (by first | exact HE0.out | exact HE1.out | exact HE2.out | exact HE3.out) (by first | exact HE0.out | exact HE1.out | exact HE2.out | exact HE3.out)).mono ?_
      rintro e w3 ⟨v3, rfl, hv, hb⟩
      exact hK _ _ _ (hI.call hb) (Step.call hI hb) hv
    · intro vs g w2 hI hF hR K hK
      simp only [Facts, fill, Act.put, z1, z2, z3, z4, z5, Nat.reduceAdd] at hF hR hK ⊢
      obtain ⟨r2, -⟩ := hR
      generalize vs 2 = x2 at *
      go_simp
      exact hK _ _ _ hI (Step.refl hI) r2
  case fin =>
    intro vs g wR1 hI hR
    have r3 := hR 3 (by decide)
    simp only [fill, Act.put, z1, z2, z3, z4, z5] at r3 ⊢
    clear hR
    generalize vs 3 = x3 at *
    have C0_R1_0 := Lib.hid (hI.cell C0_W_0.out (by first | exact HO0 | exact HO1))
    have C0_R1_1 := Lib.hid (hI.cell C0_W_1.out (by first | exact HO0 | exact HO1))
    have Fxa_R1_01 := Lib.hid ((limR_firm _ _) _ _ _ _ _ Fxa_W_01.out hI.carry)
    have Fya_R1_11 := Lib.hid ((limR_firm _ _) _ _ _ _ _ Fya_W_11.out hI.carry)
    have Fva_R1_02 := Lib.hid ((vecL_firm _ _) _ _ _ _ _ Fva_W_02.out hI.carry)
    have C1_R1_0 := Lib.hid (hI.cell C1_W_0.out (by first | exact HO0 | exact HO1))
    have C1_R1_1 := Lib.hid (hI.cell C1_W_1.out (by first | exact HO0 | exact HO1))
    have Fxb_R1_01 := Lib.hid ((limR_firm _ _) _ _ _ _ _ Fxb_W_01.out hI.carry)
    have Fyb_R1_11 := Lib.hid ((limR_firm _ _) _ _ _ _ _ Fyb_W_11.out hI.carry)
    have Fvb_R1_02 := Lib.hid ((vecL_firm _ _) _ _ _ _ _ Fvb_W_02.out hI.carry)
    have qfR14 := r3
    obtain ⟨AvR14, cvR14, rfl⟩ := limR_open r3
    have FR14_R1_0 := Lib.hid ((limR_firm _ _) _ _ _ _ _ qfR14 hI.back)
    clear qfR14
    have hBR1 := hI.below
    have HCR1 := hI.next HOK
    clear hI
    go_wp2
    go_ret
    exact ⟨_, rfl, (limR_firm _ _) _ _ _ _ _ FR14_R1_0.out keeps_out0, hBR1⟩
set_option maxRecDepth 100000 in
set_option maxHeartbeats 4000000 in
theorem gDot {c0 : Ctx} {g0 : Gh} {w : World} {xa ya xb yb : Int} {va vb : Value} (hI0 : RInv c0 g0 w) (hw : Wts c0.W0) (ha : VecL xa ya va g0 w) (hb : VecL xb yb vb g0 w) (exa : sv (limbs 2 xa) = xa) (eya : sv (limbs 2 ya) = ya) (exb : sv (limbs 2 xb) = xb) (eyb : sv (limbs 2 yb) = yb) :
    Calls Tryz.prog 134 #[va, vb] w (Gives (LimR 4 (xa * xb + ya * yb)) g0 w) := by
  have hw1 := hw.below hI0.below
  have qa := ha
  obtain ⟨A0, c0, B0, d0, rfl⟩ := vecL_open ha
  have qb := hb
  obtain ⟨A1, c1, B1, d1, rfl⟩ := vecL_open hb
  have HE0 := Lib.hid exa
  have HE1 := Lib.hid eya
  have HE2 := Lib.hid exb
  have HE3 := Lib.hid eyb
  clear exa eya exb eyb
  obtain ⟨W, hW⟩ : ∃ W, W = (w.alloc (.cells #[.slice A0 2 c0, .slice B0 2 d0] 143)).alloc (.cells #[.slice A1 2 c1, .slice B1 2 d1] 143) := ⟨_, rfl⟩
  have hb0 : Below w.heap.size w W := by rw [hW]; exact (((Below.refl _ _).alloc (Nat.le_refl _) _).alloc (by simp) _)
  have HOK := Ctx.ok_lift0 hI0 hb0
  have C0_W_0 := Lib.hid (show W.cell? ⟨w.heap.size, 0, none⟩ = some (.slice A0 2 c0) by rw [hW]; simp [go_sem])
  have C0_W_1 := Lib.hid (show W.cell? ⟨w.heap.size, 1, none⟩ = some (.slice B0 2 d0) by rw [hW]; simp [go_sem])
  have Fxa_W_01 := Lib.hid ((limR_firm _ _) _ _ _ _ _ (vecL_x qa) (keeps_lift0 hb0))
  have Fya_W_11 := Lib.hid ((limR_firm _ _) _ _ _ _ _ (vecL_y qa) (keeps_lift0 hb0))
  have Fva_W_02 := Lib.hid ((vecL_firm _ _) _ _ _ _ _ (qa) (keeps_lift0 hb0))
  have HO0 : Off (lift0 g0) (w.heap.size) := lift0_off (hI0.offs _ (by omega))
  have C1_W_0 := Lib.hid (show W.cell? ⟨w.heap.size + 1, 0, none⟩ = some (.slice A1 2 c1) by rw [hW]; simp [go_sem])
  have C1_W_1 := Lib.hid (show W.cell? ⟨w.heap.size + 1, 1, none⟩ = some (.slice B1 2 d1) by rw [hW]; simp [go_sem])
  have Fxb_W_01 := Lib.hid ((limR_firm _ _) _ _ _ _ _ (vecL_x qb) (keeps_lift0 hb0))
  have Fyb_W_11 := Lib.hid ((limR_firm _ _) _ _ _ _ _ (vecL_y qb) (keeps_lift0 hb0))
  have Fvb_W_02 := Lib.hid ((vecL_firm _ _) _ _ _ _ _ (qb) (keeps_lift0 hb0))
  have HO1 : Off (lift0 g0) (w.heap.size + 1) := lift0_off (hI0.offs _ (by omega))
  have HW := Lib.hid hW
  clear hW
  go_enter Tryz.func134, Tryz.ntmps134
  go_upto_region 1 with (fail)
  rw [← HW.out]
  refine box_plan0 (c := ⟨w, W, (lift0 g0)⟩) HOK [[], [], [(5, 0), (6, 1)], [(7, 2)]] [(5, 0), (6, 1), (7, 2), (4, 3)] [
      (fun v _ _ => v = .agg #[.slice A0 2 c0, .slice B0 2 d0]),
      (fun v _ _ => v = .agg #[.slice A1 2 c1, .slice B1 2 d1]),
      LimR 4 (xa * xb + ya * yb),
      LimR 4 (xa * xb + ya * yb)
    ] (fun _ => none) (by kernel_rfl) (by kernel_rfl) ⟨stab_eq, stab_eq, stab_firm (limR_firm _ _), stab_firm (limR_firm _ _), trivial⟩ ?steps ?fin
  case steps =>
    refine ⟨?_, ?_, ?_, ?_, trivial⟩
    · intro vs g w2 hI hF hR K hK
      simp only [Facts, fill, Act.put, z1, z2, z3, z4, z5, Nat.reduceAdd] at hF hR hK ⊢
      have k0 := hI.cell C0_W_0.out (by first | exact HO0 | exact HO1)
      have k1 := hI.cell C0_W_1.out (by first | exact HO0 | exact HO1)
      go_simp
      exact hK _ _ _ hI (Step.refl hI) rfl
    · intro vs g w2 hI hF hR K hK
      simp only [Facts, fill, Act.put, z1, z2, z3, z4, z5, Nat.reduceAdd] at hF hR hK ⊢
      have k0 := hI.cell C1_W_0.out (by first | exact HO0 | exact HO1)
      have k1 := hI.cell C1_W_1.out (by first | exact HO0 | exact HO1)
      go_simp
      exact hK _ _ _ hI (Step.refl hI) rfl
    · intro vs g w2 hI hF hR K hK
      simp only [Facts, fill, Act.put, z1, z2, z3, z4, z5, Nat.reduceAdd] at hF hR hK ⊢
      obtain ⟨r0, r1, -⟩ := hR
      generalize vs 0 = x0, vs 1 = x1 at *
      subst r0 r1
      go_simp
      refine (gCombAdd hI hw1 ((vecL_firm _ _) _ _ _ _ _ Fva_W_02.out hI.keeps) ((vecL_firm _ _) _ _ _ _ _ Fvb_W_02.out hI.keeps) (by first | exact HE0.out | exact HE1.out | exact HE2.out | exact HE3.out) (by first | exact HE0.out | exact HE1.out | exact HE2.out | exact HE3.out) (by first | exact HE0.out | exact HE1.out | exact HE2.out | exact HE3.out) (by first | exact HE0.out | exact HE1.out | exact HE2.out | exact HE3.out)).mono ?_
      rintro e w3 ⟨v3, rfl, hv, hb⟩
      exact hK _ _ _ (hI.call hb) (Step.call hI hb) hv
    · intro vs g w2 hI hF hR K hK
      simp only [Facts, fill, Act.put, z1, z2, z3, z4, z5, Nat.reduceAdd] at hF hR hK ⊢
      obtain ⟨r2, -⟩ := hR
      generalize vs 2 = x2 at *
      go_simp
      exact hK _ _ _ hI (Step.refl hI) r2
  case fin =>
    intro vs g wR1 hI hR
    have r3 := hR 3 (by decide)
    simp only [fill, Act.put, z1, z2, z3, z4, z5] at r3 ⊢
    clear hR
    generalize vs 3 = x3 at *
    have C0_R1_0 := Lib.hid (hI.cell C0_W_0.out (by first | exact HO0 | exact HO1))
    have C0_R1_1 := Lib.hid (hI.cell C0_W_1.out (by first | exact HO0 | exact HO1))
    have Fxa_R1_01 := Lib.hid ((limR_firm _ _) _ _ _ _ _ Fxa_W_01.out hI.carry)
    have Fya_R1_11 := Lib.hid ((limR_firm _ _) _ _ _ _ _ Fya_W_11.out hI.carry)
    have Fva_R1_02 := Lib.hid ((vecL_firm _ _) _ _ _ _ _ Fva_W_02.out hI.carry)
    have C1_R1_0 := Lib.hid (hI.cell C1_W_0.out (by first | exact HO0 | exact HO1))
    have C1_R1_1 := Lib.hid (hI.cell C1_W_1.out (by first | exact HO0 | exact HO1))
    have Fxb_R1_01 := Lib.hid ((limR_firm _ _) _ _ _ _ _ Fxb_W_01.out hI.carry)
    have Fyb_R1_11 := Lib.hid ((limR_firm _ _) _ _ _ _ _ Fyb_W_11.out hI.carry)
    have Fvb_R1_02 := Lib.hid ((vecL_firm _ _) _ _ _ _ _ Fvb_W_02.out hI.carry)
    have qfR14 := r3
    obtain ⟨AvR14, cvR14, rfl⟩ := limR_open r3
    have FR14_R1_0 := Lib.hid ((limR_firm _ _) _ _ _ _ _ qfR14 hI.back)
    clear qfR14
    have hBR1 := hI.below
    have HCR1 := hI.next HOK
    clear hI
    go_wp2
    go_ret
    exact ⟨_, rfl, (limR_firm _ _) _ _ _ _ _ FR14_R1_0.out keeps_out0, hBR1⟩
set_option maxRecDepth 100000 in
set_option maxHeartbeats 4000000 in
theorem gNorm {c0 : Ctx} {g0 : Gh} {w : World} {xa ya : Int} {va : Value} (hI0 : RInv c0 g0 w) (hw : Wts c0.W0) (ha : VecL xa ya va g0 w) (exa : sv (limbs 2 xa) = xa) (eya : sv (limbs 2 ya) = ya) :
    Calls Tryz.prog 125 #[va] w (Gives (LimR 4 (xa * xa + ya * ya)) g0 w) := by
  have hw1 := hw.below hI0.below
  have qa := ha
  obtain ⟨A0, c0, B0, d0, rfl⟩ := vecL_open ha
  have HE0 := Lib.hid exa
  have HE1 := Lib.hid eya
  clear exa eya
  obtain ⟨W, hW⟩ : ∃ W, W = w.alloc (.cells #[.slice A0 2 c0, .slice B0 2 d0] 143) := ⟨_, rfl⟩
  have hb0 : Below w.heap.size w W := by rw [hW]; exact ((Below.refl _ _).alloc (Nat.le_refl _) _)
  have HOK := Ctx.ok_lift0 hI0 hb0
  have C0_W_0 := Lib.hid (show W.cell? ⟨w.heap.size, 0, none⟩ = some (.slice A0 2 c0) by rw [hW]; simp [go_sem])
  have C0_W_1 := Lib.hid (show W.cell? ⟨w.heap.size, 1, none⟩ = some (.slice B0 2 d0) by rw [hW]; simp [go_sem])
  have Fxa_W_01 := Lib.hid ((limR_firm _ _) _ _ _ _ _ (vecL_x qa) (keeps_lift0 hb0))
  have Fya_W_11 := Lib.hid ((limR_firm _ _) _ _ _ _ _ (vecL_y qa) (keeps_lift0 hb0))
  have Fva_W_02 := Lib.hid ((vecL_firm _ _) _ _ _ _ _ (qa) (keeps_lift0 hb0))
  have HO0 : Off (lift0 g0) (w.heap.size) := lift0_off (hI0.offs _ (by omega))
  have HW := Lib.hid hW
  clear hW
  go_enter Tryz.func125, Tryz.ntmps125
  go_upto_region 1 with (fail)
  rw [← HW.out]
  refine box_plan0 (c := ⟨w, W, (lift0 g0)⟩) HOK [[], [], [(3, 0), (4, 1)], [(5, 2)]] [(3, 0), (4, 1), (5, 2), (2, 3)] [
      (fun v _ _ => v = .agg #[.slice A0 2 c0, .slice B0 2 d0]),
      (fun v _ _ => v = .agg #[.slice A0 2 c0, .slice B0 2 d0]),
      LimR 4 (xa * xa + ya * ya),
      LimR 4 (xa * xa + ya * ya)
    ] (fun _ => none) (by kernel_rfl) (by kernel_rfl) ⟨stab_eq, stab_eq, stab_firm (limR_firm _ _), stab_firm (limR_firm _ _), trivial⟩ ?steps ?fin
  case steps =>
    refine ⟨?_, ?_, ?_, ?_, trivial⟩
    · intro vs g w2 hI hF hR K hK
      simp only [Facts, fill, Act.put, z1, z2, z3, z4, z5, Nat.reduceAdd] at hF hR hK ⊢
      have k0 := hI.cell C0_W_0.out (by first | exact HO0)
      have k1 := hI.cell C0_W_1.out (by first | exact HO0)
      go_simp
      exact hK _ _ _ hI (Step.refl hI) rfl
    · intro vs g w2 hI hF hR K hK
      simp only [Facts, fill, Act.put, z1, z2, z3, z4, z5, Nat.reduceAdd] at hF hR hK ⊢
      have k0 := hI.cell C0_W_0.out (by first | exact HO0)
      have k1 := hI.cell C0_W_1.out (by first | exact HO0)
      go_simp
      exact hK _ _ _ hI (Step.refl hI) rfl
    · intro vs g w2 hI hF hR K hK
      simp only [Facts, fill, Act.put, z1, z2, z3, z4, z5, Nat.reduceAdd] at hF hR hK ⊢
      obtain ⟨r0, r1, -⟩ := hR
      generalize vs 0 = x0, vs 1 = x1 at *
      subst r0 r1
      go_simp
      refine (gDot hI hw1 ((vecL_firm _ _) _ _ _ _ _ Fva_W_02.out hI.keeps) ((vecL_firm _ _) _ _ _ _ _ Fva_W_02.out hI.keeps) (by first | exact HE0.out | exact HE1.out | exact HE2.out | exact HE3.out) (by first | exact HE0.out | exact HE1.out | exact HE2.out | exact HE3.out) (by first | exact HE0.out | exact HE1.out | exact HE2.out | exact HE3.out) (by first | exact HE0.out | exact HE1.out | exact HE2.out | exact HE3.out)).mono ?_
      rintro e w3 ⟨v3, rfl, hv, hb⟩
      exact hK _ _ _ (hI.call hb) (Step.call hI hb) hv
    · intro vs g w2 hI hF hR K hK
      simp only [Facts, fill, Act.put, z1, z2, z3, z4, z5, Nat.reduceAdd] at hF hR hK ⊢
      obtain ⟨r2, -⟩ := hR
      generalize vs 2 = x2 at *
      go_simp
      exact hK _ _ _ hI (Step.refl hI) r2
  case fin =>
    intro vs g wR1 hI hR
    have r3 := hR 3 (by decide)
    simp only [fill, Act.put, z1, z2, z3, z4, z5] at r3 ⊢
    clear hR
    generalize vs 3 = x3 at *
    have C0_R1_0 := Lib.hid (hI.cell C0_W_0.out (by first | exact HO0))
    have C0_R1_1 := Lib.hid (hI.cell C0_W_1.out (by first | exact HO0))
    have Fxa_R1_01 := Lib.hid ((limR_firm _ _) _ _ _ _ _ Fxa_W_01.out hI.carry)
    have Fya_R1_11 := Lib.hid ((limR_firm _ _) _ _ _ _ _ Fya_W_11.out hI.carry)
    have Fva_R1_02 := Lib.hid ((vecL_firm _ _) _ _ _ _ _ Fva_W_02.out hI.carry)
    have qfR12 := r3
    obtain ⟨AvR12, cvR12, rfl⟩ := limR_open r3
    have FR12_R1_0 := Lib.hid ((limR_firm _ _) _ _ _ _ _ qfR12 hI.back)
    clear qfR12
    have hBR1 := hI.below
    have HCR1 := hI.next HOK
    clear hI
    go_wp2
    go_ret
    exact ⟨_, rfl, (limR_firm _ _) _ _ _ _ _ FR12_R1_0.out keeps_out0, hBR1⟩
end Go.Proofs.YthmkllpdkcmccaaGreatDoor
namespace Go.Proofs.YthmkllpdkcmccaaGreatDoor
open Go.RowKit
set_option maxRecDepth 100000
set_option linter.unusedVariables false
set_option linter.unusedSimpArgs false

theorem diff_bd {a b : Int} (ha : S a) (hb : S b) : -18446744073709551615 ≤ a - b ∧ a - b ≤ 18446744073709551615 := by unfold S at ha hb; omega
theorem prod_bd {a b : Int} (ha : -18446744073709551615 ≤ a ∧ a ≤ 18446744073709551615) (hb : -18446744073709551615 ≤ b ∧ b ≤ 18446744073709551615) : -340282366920938463426481119284349108225 ≤ a * b ∧ a * b ≤ 340282366920938463426481119284349108225 := by
  have h1 : a.natAbs ≤ 18446744073709551615 := by omega
  have h2 : b.natAbs ≤ 18446744073709551615 := by omega
  have h3 := Nat.mul_le_mul h1 h2
  rw [← Int.natAbs_mul] at h3
  omega
/-- The determinant's range. -/
theorem det_bd {xa ya xb yb xc yc : Int} (h1 : S xa) (h2 : S ya) (h3 : S xb) (h4 : S yb) (h5 : S xc) (h6 : S yc) : -680564733841876926852962238568698216450 ≤ det xa ya xb yb xc yc ∧ det xa ya xb yb xc yc ≤ 680564733841876926852962238568698216450 := by
  have p1 := prod_bd (diff_bd h3 h1) (diff_bd h6 h2)
  have p2 := prod_bd (diff_bd h4 h2) (diff_bd h5 h1)
  unfold det
  omega
theorem det_fit {xa ya xb yb xc yc : Int} (h1 : S xa) (h2 : S ya) (h3 : S xb) (h4 : S yb) (h5 : S xc) (h6 : S yc) : Fit 3 (det xa ya xb yb xc yc) := by
  have := det_bd h1 h2 h3 h4 h5 h6
  have e : M 3 = 6277101735386680763835789423207666416102355444464034512896 := rfl
  unfold Fit
  omega
theorem det_fit4 {xa ya xb yb xc yc : Int} (h1 : S xa) (h2 : S ya) (h3 : S xb) (h4 : S yb) (h5 : S xc) (h6 : S yc) : Fit 4 (det xa ya xb yb xc yc) := by
  have := det_bd h1 h2 h3 h4 h5 h6
  have e : M 4 = 115792089237316195423570985008687907853269984665640564039457584007913129639936 := rfl
  unfold Fit
  omega
set_option maxRecDepth 100000 in
set_option maxHeartbeats 4000000 in
theorem gOrientValue {c0 : Ctx} {g0 : Gh} {w : World} {xa ya xb yb xc yc : Int} (hI0 : RInv c0 g0 w) (hw : Wts c0.W0) (sxa : S xa) (sya : S ya) (sxb : S xb) (syb : S yb) (sxc : S xc) (syc : S yc) :
    Calls Tryz.prog 72 #[.agg #[.int .i64 xa, .int .i64 ya], .agg #[.int .i64 xb, .int .i64 yb], .agg #[.int .i64 xc, .int .i64 yc]] w (Gives (LimR 3 (det xa ya xb yb xc yc)) g0 w) := by
  have hw1 := hw.below hI0.below
  obtain ⟨W, hW⟩ : ∃ W, W = ((w.alloc (.cells #[.int .i64 xa, .int .i64 ya] 24)).alloc (.cells #[.int .i64 xb, .int .i64 yb] 24)).alloc (.cells #[.int .i64 xc, .int .i64 yc] 24) := ⟨_, rfl⟩
  have hb0 : Below w.heap.size w W := by rw [hW]; exact ((((Below.refl _ _).alloc (Nat.le_refl _) _).alloc (by simp) _).alloc (by simp; omega) _)
  have HOK := Ctx.ok_lift0 hI0 hb0
  have C0_W_0 := Lib.hid (show W.cell? ⟨w.heap.size, 0, none⟩ = some (.int .i64 xa) by rw [hW]; simp [go_sem])
  have C0_W_1 := Lib.hid (show W.cell? ⟨w.heap.size, 1, none⟩ = some (.int .i64 ya) by rw [hW]; simp [go_sem])
  have HO0 : Off (lift0 g0) (w.heap.size) := lift0_off (hI0.offs _ (by omega))
  have C1_W_0 := Lib.hid (show W.cell? ⟨w.heap.size + 1, 0, none⟩ = some (.int .i64 xb) by rw [hW]; simp [go_sem])
  have C1_W_1 := Lib.hid (show W.cell? ⟨w.heap.size + 1, 1, none⟩ = some (.int .i64 yb) by rw [hW]; simp [go_sem])
  have HO1 : Off (lift0 g0) (w.heap.size + 1) := lift0_off (hI0.offs _ (by omega))
  have C2_W_0 := Lib.hid (show W.cell? ⟨w.heap.size + 1 + 1, 0, none⟩ = some (.int .i64 xc) by rw [hW]; simp [go_sem])
  have C2_W_1 := Lib.hid (show W.cell? ⟨w.heap.size + 1 + 1, 1, none⟩ = some (.int .i64 yc) by rw [hW]; simp [go_sem])
  have HO2 : Off (lift0 g0) (w.heap.size + 1 + 1) := lift0_off (hI0.offs _ (by omega))
  have HW := Lib.hid hW
  clear hW
  go_enter Tryz.func72, Tryz.ntmps72
  go_upto_region 1 with (fail)
  rw [← HW.out]
  refine box_plan (c := ⟨w, W, (lift0 g0)⟩) HOK (by kernel_rfl) [[], [], [(7, 0), (8, 1)], [], [], [(10, 3), (11, 4)], [(9, 2), (12, 5)], [(13, 6)], [(14, 7)]] [(7, 0), (8, 1), (9, 2), (10, 3), (11, 4), (12, 5), (13, 6), (14, 7), (6, 8)] [
      (fun v _ _ => v = .agg #[.int .i64 xa, .int .i64 ya]),
      (fun v _ _ => v = .agg #[.int .i64 xb, .int .i64 yb]),
      VecL (xb - xa) (yb - ya),
      (fun v _ _ => v = .agg #[.int .i64 xa, .int .i64 ya]),
      (fun v _ _ => v = .agg #[.int .i64 xc, .int .i64 yc]),
      VecL (xc - xa) (yc - ya),
      LimR 4 ((xb - xa) * (yc - ya) - (yb - ya) * (xc - xa)),
      LimR 3 (det xa ya xb yb xc yc),
      LimR 3 (det xa ya xb yb xc yc)
    ] (fun _ => none) (by kernel_rfl) (by kernel_rfl) ⟨stab_eq, stab_eq, stab_firm (vecL_firm _ _), stab_eq, stab_eq, stab_firm (vecL_firm _ _), stab_firm (limR_firm _ _), stab_firm (limR_firm _ _), stab_firm (limR_firm _ _), trivial⟩ ?steps ?fin
  case steps =>
    refine ⟨?_, ?_, ?_, ?_, ?_, ?_, ?_, ?_, ?_, trivial⟩
    · intro vs g w2 hI hF hR K hK
      simp only [Facts, fill, Act.put, z1, z2, z3, z4, z5, Nat.reduceAdd] at hF hR hK ⊢
      have k0 := hI.cell C0_W_0.out (by first | exact HO0 | exact HO1 | exact HO2 | assumption)
      have k1 := hI.cell C0_W_1.out (by first | exact HO0 | exact HO1 | exact HO2 | assumption)
      go_simp
      exact hK _ _ _ hI (Step.refl hI) rfl
    · intro vs g w2 hI hF hR K hK
      simp only [Facts, fill, Act.put, z1, z2, z3, z4, z5, Nat.reduceAdd] at hF hR hK ⊢
      have k0 := hI.cell C1_W_0.out (by first | exact HO0 | exact HO1 | exact HO2 | assumption)
      have k1 := hI.cell C1_W_1.out (by first | exact HO0 | exact HO1 | exact HO2 | assumption)
      go_simp
      exact hK _ _ _ hI (Step.refl hI) rfl
    · intro vs g w2 hI hF hR K hK
      simp only [Facts, fill, Act.put, z1, z2, z3, z4, z5, Nat.reduceAdd] at hF hR hK ⊢
      obtain ⟨r0, r1, -⟩ := hR
      generalize vs 0 = x0, vs 1 = x1 at *
      subst r0 r1
      go_simp
      refine (gBetween hI hw1 (by first | assumption | (unfold S; decide)) (by first | assumption | (unfold S; decide)) (by first | assumption | (unfold S; decide)) (by first | assumption | (unfold S; decide))).mono ?_
      rintro e w3 ⟨v3, rfl, hv, hb⟩
      exact hK _ _ _ (hI.call hb) (Step.call hI hb) hv
    · intro vs g w2 hI hF hR K hK
      simp only [Facts, fill, Act.put, z1, z2, z3, z4, z5, Nat.reduceAdd] at hF hR hK ⊢
      have k0 := hI.cell C0_W_0.out (by first | exact HO0 | exact HO1 | exact HO2 | assumption)
      have k1 := hI.cell C0_W_1.out (by first | exact HO0 | exact HO1 | exact HO2 | assumption)
      go_simp
      exact hK _ _ _ hI (Step.refl hI) rfl
    · intro vs g w2 hI hF hR K hK
      simp only [Facts, fill, Act.put, z1, z2, z3, z4, z5, Nat.reduceAdd] at hF hR hK ⊢
      have k0 := hI.cell C2_W_0.out (by first | exact HO0 | exact HO1 | exact HO2 | assumption)
      have k1 := hI.cell C2_W_1.out (by first | exact HO0 | exact HO1 | exact HO2 | assumption)
      go_simp
      exact hK _ _ _ hI (Step.refl hI) rfl
    · intro vs g w2 hI hF hR K hK
      simp only [Facts, fill, Act.put, z1, z2, z3, z4, z5, Nat.reduceAdd] at hF hR hK ⊢
      obtain ⟨r3, r4, -⟩ := hR
      generalize vs 3 = x3, vs 4 = x4 at *
      subst r3 r4
      go_simp
      refine (gBetween hI hw1 (by first | assumption | (unfold S; decide)) (by first | assumption | (unfold S; decide)) (by first | assumption | (unfold S; decide)) (by first | assumption | (unfold S; decide))).mono ?_
      rintro e w3 ⟨v3, rfl, hv, hb⟩
      exact hK _ _ _ (hI.call hb) (Step.call hI hb) hv
    · intro vs g w2 hI hF hR K hK
      simp only [Facts, fill, Act.put, z1, z2, z3, z4, z5, Nat.reduceAdd] at hF hR hK ⊢
      obtain ⟨r2, r5, -⟩ := hR
      generalize vs 2 = x2, vs 5 = x5 at *
      go_simp
      refine (gCross hI hw1 r2 r5 (by first | exact HE0.out | exact HE1.out | exact HE2.out | exact HE3.out | exact Fit.sv (by repeat first | exact S.diff (by first | assumption | (unfold S; decide)) (by first | assumption | (unfold S; decide)) | apply Fit.neg | (unfold Fit; decide +kernel))) (by first | exact HE0.out | exact HE1.out | exact HE2.out | exact HE3.out | exact Fit.sv (by repeat first | exact S.diff (by first | assumption | (unfold S; decide)) (by first | assumption | (unfold S; decide)) | apply Fit.neg | (unfold Fit; decide +kernel))) (by first | exact HE0.out | exact HE1.out | exact HE2.out | exact HE3.out | exact Fit.sv (by repeat first | exact S.diff (by first | assumption | (unfold S; decide)) (by first | assumption | (unfold S; decide)) | apply Fit.neg | (unfold Fit; decide +kernel))) (by first | exact HE0.out | exact HE1.out | exact HE2.out | exact HE3.out | exact Fit.sv (by repeat first | exact S.diff (by first | assumption | (unfold S; decide)) (by first | assumption | (unfold S; decide)) | apply Fit.neg | (unfold Fit; decide +kernel)))).mono ?_
      rintro e w3 ⟨v3, rfl, hv, hb⟩
      exact hK _ _ _ (hI.call hb) (Step.call hI hb) hv
    · intro vs g w2 hI hF hR K hK
      simp only [Facts, fill, Act.put, z1, z2, z3, z4, z5, Nat.reduceAdd] at hF hR hK ⊢
      obtain ⟨r6, -⟩ := hR
      generalize vs 6 = x6 at *
      go_simp
      refine (gLimExtend (m := 3) hI hw1 r6 (Fit.sv (det_fit4 (by first | assumption | (unfold S; decide)) (by first | assumption | (unfold S; decide)) (by first | assumption | (unfold S; decide)) (by first | assumption | (unfold S; decide)) (by first | assumption | (unfold S; decide)) (by first | assumption | (unfold S; decide)))) (by decide) (by decide) (by decide) (by decide)).mono ?_
      rintro e w3 ⟨v3, rfl, hv, hb⟩
      exact hK _ _ _ (hI.call hb) (Step.call hI hb) hv
    · intro vs g w2 hI hF hR K hK
      simp only [Facts, fill, Act.put, z1, z2, z3, z4, z5, Nat.reduceAdd] at hF hR hK ⊢
      obtain ⟨r7, -⟩ := hR
      generalize vs 7 = x7 at *
      go_simp
      exact hK _ _ _ hI (Step.refl hI) r7
  case fin =>
    intro vs g wR1 hI hR
    have r8 := hR 8 (by decide)
    simp only [fill, Act.put, z1, z2, z3, z4, z5] at r8 ⊢
    clear hR
    generalize vs 8 = x8 at *
    have C0_R1_0 := Lib.hid (hI.cell C0_W_0.out (by first | exact HO0 | exact HO1 | exact HO2 | assumption))
    have C0_R1_1 := Lib.hid (hI.cell C0_W_1.out (by first | exact HO0 | exact HO1 | exact HO2 | assumption))
    have C1_R1_0 := Lib.hid (hI.cell C1_W_0.out (by first | exact HO0 | exact HO1 | exact HO2 | assumption))
    have C1_R1_1 := Lib.hid (hI.cell C1_W_1.out (by first | exact HO0 | exact HO1 | exact HO2 | assumption))
    have C2_R1_0 := Lib.hid (hI.cell C2_W_0.out (by first | exact HO0 | exact HO1 | exact HO2 | assumption))
    have C2_R1_1 := Lib.hid (hI.cell C2_W_1.out (by first | exact HO0 | exact HO1 | exact HO2 | assumption))
    have qfR16 := r8
    obtain ⟨AvR16, cvR16, rfl⟩ := limR_open r8
    have FR16_R1_0 := Lib.hid ((limR_firm _ _) _ _ _ _ _ qfR16 hI.back)
    clear qfR16
    have hBR1 := hI.below
    have HCR1 := hI.next HOK
    clear hI
    go_wp2
    go_ret
    exact ⟨_, rfl, (limR_firm _ _) _ _ _ _ _ FR16_R1_0.out keeps_out0, hBR1⟩
set_option maxRecDepth 100000 in
set_option maxHeartbeats 4000000 in
theorem gOrientSign {c0 : Ctx} {g0 : Gh} {w : World} {xa ya xb yb xc yc : Int} (hI0 : RInv c0 g0 w) (hw : Wts c0.W0) (sxa : S xa) (sya : S ya) (sxb : S xb) (syb : S yb) (sxc : S xc) (syc : S yc) :
    Calls Tryz.prog 48 #[.agg #[.int .i64 xa, .int .i64 ya], .agg #[.int .i64 xb, .int .i64 yb], .agg #[.int .i64 xc, .int .i64 yc]] w (Gives (SignR (det xa ya xb yb xc yc)) g0 w) := by
  have hw1 := hw.below hI0.below
  obtain ⟨W, hW⟩ : ∃ W, W = ((w.alloc (.cells #[.int .i64 xa, .int .i64 ya] 24)).alloc (.cells #[.int .i64 xb, .int .i64 yb] 24)).alloc (.cells #[.int .i64 xc, .int .i64 yc] 24) := ⟨_, rfl⟩
  have hb0 : Below w.heap.size w W := by rw [hW]; exact ((((Below.refl _ _).alloc (Nat.le_refl _) _).alloc (by simp) _).alloc (by simp; omega) _)
  have HOK := Ctx.ok_lift0 hI0 hb0
  have C0_W_0 := Lib.hid (show W.cell? ⟨w.heap.size, 0, none⟩ = some (.int .i64 xa) by rw [hW]; simp [go_sem])
  have C0_W_1 := Lib.hid (show W.cell? ⟨w.heap.size, 1, none⟩ = some (.int .i64 ya) by rw [hW]; simp [go_sem])
  have HO0 : Off (lift0 g0) (w.heap.size) := lift0_off (hI0.offs _ (by omega))
  have C1_W_0 := Lib.hid (show W.cell? ⟨w.heap.size + 1, 0, none⟩ = some (.int .i64 xb) by rw [hW]; simp [go_sem])
  have C1_W_1 := Lib.hid (show W.cell? ⟨w.heap.size + 1, 1, none⟩ = some (.int .i64 yb) by rw [hW]; simp [go_sem])
  have HO1 : Off (lift0 g0) (w.heap.size + 1) := lift0_off (hI0.offs _ (by omega))
  have C2_W_0 := Lib.hid (show W.cell? ⟨w.heap.size + 1 + 1, 0, none⟩ = some (.int .i64 xc) by rw [hW]; simp [go_sem])
  have C2_W_1 := Lib.hid (show W.cell? ⟨w.heap.size + 1 + 1, 1, none⟩ = some (.int .i64 yc) by rw [hW]; simp [go_sem])
  have HO2 : Off (lift0 g0) (w.heap.size + 1 + 1) := lift0_off (hI0.offs _ (by omega))
  have HW := Lib.hid hW
  clear hW
  go_enter Tryz.func48, Tryz.ntmps48
  go_upto_region 1 with (fail)
  rw [← HW.out]
  refine box_plan0 (c := ⟨w, W, (lift0 g0)⟩) HOK [[], [], [], [(7, 0), (8, 1), (9, 2)], [(10, 3)], [(11, 4)]] [(7, 0), (8, 1), (9, 2), (10, 3), (11, 4), (6, 5)] [
      (fun v _ _ => v = .agg #[.int .i64 xa, .int .i64 ya]),
      (fun v _ _ => v = .agg #[.int .i64 xb, .int .i64 yb]),
      (fun v _ _ => v = .agg #[.int .i64 xc, .int .i64 yc]),
      LimR 3 (det xa ya xb yb xc yc),
      SignR (det xa ya xb yb xc yc),
      SignR (det xa ya xb yb xc yc)
    ] (fun _ => none) (by kernel_rfl) (by kernel_rfl) ⟨stab_eq, stab_eq, stab_eq, stab_firm (limR_firm _ _), stab_firm (signR_firm _), stab_firm (signR_firm _), trivial⟩ ?steps ?fin
  case steps =>
    refine ⟨?_, ?_, ?_, ?_, ?_, ?_, trivial⟩
    · intro vs g w2 hI hF hR K hK
      simp only [Facts, fill, Act.put, z1, z2, z3, z4, z5, Nat.reduceAdd] at hF hR hK ⊢
      have k0 := hI.cell C0_W_0.out (by first | exact HO0 | exact HO1 | exact HO2 | assumption)
      have k1 := hI.cell C0_W_1.out (by first | exact HO0 | exact HO1 | exact HO2 | assumption)
      go_simp
      exact hK _ _ _ hI (Step.refl hI) rfl
    · intro vs g w2 hI hF hR K hK
      simp only [Facts, fill, Act.put, z1, z2, z3, z4, z5, Nat.reduceAdd] at hF hR hK ⊢
      have k0 := hI.cell C1_W_0.out (by first | exact HO0 | exact HO1 | exact HO2 | assumption)
      have k1 := hI.cell C1_W_1.out (by first | exact HO0 | exact HO1 | exact HO2 | assumption)
      go_simp
      exact hK _ _ _ hI (Step.refl hI) rfl
    · intro vs g w2 hI hF hR K hK
      simp only [Facts, fill, Act.put, z1, z2, z3, z4, z5, Nat.reduceAdd] at hF hR hK ⊢
      have k0 := hI.cell C2_W_0.out (by first | exact HO0 | exact HO1 | exact HO2 | assumption)
      have k1 := hI.cell C2_W_1.out (by first | exact HO0 | exact HO1 | exact HO2 | assumption)
      go_simp
      exact hK _ _ _ hI (Step.refl hI) rfl
    · intro vs g w2 hI hF hR K hK
      simp only [Facts, fill, Act.put, z1, z2, z3, z4, z5, Nat.reduceAdd] at hF hR hK ⊢
      obtain ⟨r0, r1, r2, -⟩ := hR
      generalize vs 0 = x0, vs 1 = x1, vs 2 = x2 at *
      subst r0 r1 r2
      go_simp
      refine (gOrientValue hI hw1 (by first | assumption | (unfold S; decide)) (by first | assumption | (unfold S; decide)) (by first | assumption | (unfold S; decide)) (by first | assumption | (unfold S; decide)) (by first | assumption | (unfold S; decide)) (by first | assumption | (unfold S; decide))).mono ?_
      rintro e w3 ⟨v3, rfl, hv, hb⟩
      exact hK _ _ _ (hI.call hb) (Step.call hI hb) hv
    · intro vs g w2 hI hF hR K hK
      simp only [Facts, fill, Act.put, z1, z2, z3, z4, z5, Nat.reduceAdd] at hF hR hK ⊢
      obtain ⟨r3, -⟩ := hR
      generalize vs 3 = x3 at *
      go_simp
      refine (gLimSign hI hw1 r3 (Fit.sv (det_fit (by first | assumption | (unfold S; decide)) (by first | assumption | (unfold S; decide)) (by first | assumption | (unfold S; decide)) (by first | assumption | (unfold S; decide)) (by first | assumption | (unfold S; decide)) (by first | assumption | (unfold S; decide)))) (by decide) (by decide)).mono ?_
      rintro e w3 ⟨v3, rfl, hv, hb⟩
      exact hK _ _ _ (hI.call hb) (Step.call hI hb) hv
    · intro vs g w2 hI hF hR K hK
      simp only [Facts, fill, Act.put, z1, z2, z3, z4, z5, Nat.reduceAdd] at hF hR hK ⊢
      obtain ⟨r4, -⟩ := hR
      generalize vs 4 = x4 at *
      go_simp
      exact hK _ _ _ hI (Step.refl hI) r4
  case fin =>
    intro vs g wR1 hI hR
    have r5 := hR 5 (by decide)
    simp only [fill, Act.put, z1, z2, z3, z4, z5] at r5 ⊢
    clear hR
    generalize vs 5 = x5 at *
    have C0_R1_0 := Lib.hid (hI.cell C0_W_0.out (by first | exact HO0 | exact HO1 | exact HO2 | assumption))
    have C0_R1_1 := Lib.hid (hI.cell C0_W_1.out (by first | exact HO0 | exact HO1 | exact HO2 | assumption))
    have C1_R1_0 := Lib.hid (hI.cell C1_W_0.out (by first | exact HO0 | exact HO1 | exact HO2 | assumption))
    have C1_R1_1 := Lib.hid (hI.cell C1_W_1.out (by first | exact HO0 | exact HO1 | exact HO2 | assumption))
    have C2_R1_0 := Lib.hid (hI.cell C2_W_0.out (by first | exact HO0 | exact HO1 | exact HO2 | assumption))
    have C2_R1_1 := Lib.hid (hI.cell C2_W_1.out (by first | exact HO0 | exact HO1 | exact HO2 | assumption))
    have qfR16 := r5
    obtain ⟨svR16, rfl, -⟩ := signR_open r5
    have FR16_R1_0 := Lib.hid ((signR_firm _) _ _ _ _ _ qfR16 hI.back)
    clear qfR16
    have hBR1 := hI.below
    have HCR1 := hI.next HOK
    clear hI
    go_wp2
    go_ret
    exact ⟨_, rfl, (signR_firm _) _ _ _ _ _ FR16_R1_0.out keeps_out0, hBR1⟩
theorem gIsOr {c : Ctx} {g : Gh} {w : World} {o xa ya xb yb xc yc : Int} (hI : RInv c g w) (hw : Wts c.W0) (sxa : S xa) (sya : S ya) (sxb : S xb) (syb : S yb) (sxc : S xc) (syc : S yc) :
    Calls Tryz.prog 161 #[.int .i64 o, .agg #[.int .i64 xa, .int .i64 ya], .agg #[.int .i64 xb, .int .i64 yb], .agg #[.int .i64 xc, .int .i64 yc]] w (Gives (fun v _ _ => v = .int .u64 (mk (decide (IntKind.u64.wrap (det xa ya xb yb xc yc).sign = IntKind.u64.wrap o)))) g w) := by
  have hb0 : Below w.heap.size w (((w.alloc (.cells #[.int .i64 xa, .int .i64 ya] 24)).alloc (.cells #[.int .i64 xb, .int .i64 yb] 24)).alloc (.cells #[.int .i64 xc, .int .i64 yc] 24)) := (((Below.refl _ _).alloc (Nat.le_refl _) _).alloc (by simp) _).alloc (by simp; omega) _
  have hI2 := hI.call hb0
  go_enter Tryz.func161, Tryz.ntmps161
  go_wp2_with (fail)
  refine (gOrientSign hI2 hw sxa sya sxb syb sxc syc).mono ?_
  rintro e w' ⟨v, rfl, ⟨s, rfl, hs⟩, hb⟩
  have HS := Lib.hid hs
  clear hs
  go_wp2_with (fail)
  refine (equal_any _ _ (U_wrap _) (U_wrap _) _ (hw.below (hI2.call hb).below)).mono ?_
  rintro e w'' ⟨rfl, n, rfl⟩
  go_wp2
  go_ret
  exact ⟨_, rfl, congrArg (fun z => Value.int .u64 (mk (decide (IntKind.u64.wrap z = IntKind.u64.wrap o)))) HS.out, below_drewN' (hb0.trans (hb.mono hb0.size)) n⟩
/-- Collinear, whatever the table of wanted orientations holds. -/
theorem gOrientColAt {c : Ctx} {g : Gh} {w : World} {q xa ya xb yb xc yc : Int} (hI : RInv c g w) (hw : Wts c.W0) (hc : w.cell? ⟨2, 1, none⟩ = some (.int .i64 q)) (sxa : S xa) (sya : S ya) (sxb : S xb) (syb : S yb) (sxc : S xc) (syc : S yc) :
    Calls Tryz.prog 160 #[.agg #[.int .i64 xa, .int .i64 ya], .agg #[.int .i64 xb, .int .i64 yb], .agg #[.int .i64 xc, .int .i64 yc]] w (Gives (fun v _ _ => v = .int .u64 (mk (decide (IntKind.u64.wrap (det xa ya xb yb xc yc).sign = IntKind.u64.wrap q)))) g w) := by
  have hb0 : Below w.heap.size w (((w.alloc (.cells #[.int .i64 xa, .int .i64 ya] 24)).alloc (.cells #[.int .i64 xb, .int .i64 yb] 24)).alloc (.cells #[.int .i64 xc, .int .i64 yc] 24)) := (((Below.refl _ _).alloc (Nat.le_refl _) _).alloc (by simp) _).alloc (by simp; omega) _
  have hc1 : (((w.alloc (.cells #[.int .i64 xa, .int .i64 ya] 24)).alloc (.cells #[.int .i64 xb, .int .i64 yb] 24)).alloc (.cells #[.int .i64 xc, .int .i64 yc] 24)).cell? ⟨2, 1, none⟩ = some (.int .i64 q) := (hb0.cell (p := ⟨2, 1, none⟩) (cell_lt hc)).trans hc
  have hI2 := hI.call hb0
  go_enter Tryz.func160, Tryz.ntmps160
  go_wp2_with (fail)
  refine (gIsOr hI2 hw sxa sya sxb syb sxc syc).mono ?_
  rintro e w' ⟨v, rfl, rfl, hb⟩
  go_wp2
  go_ret
  exact ⟨_, rfl, rfl, hb0.trans (hb.mono hb0.size)⟩
end Go.Proofs.YthmkllpdkcmccaaGreatDoor
namespace Go.Proofs.YthmkllpdkcmccaaGreatDoor
open Go.RowKit
set_option maxRecDepth 100000
set_option linter.unusedVariables false
set_option linter.unusedSimpArgs false

theorem orSign_d (a b c : Pt) (w : World) (hw : Wts w) (ha : S a.x ∧ S a.y) (hb : S b.x ∧ S b.y) (hc : S c.x ∧ S c.y) (r : Int) (hr : sgnP a b c = r) :
    Calls Tryz.prog 48 #[.agg #[.int .i64 a.x, .int .i64 a.y], .agg #[.int .i64 b.x, .int .i64 b.y], .agg #[.int .i64 c.x, .int .i64 c.y]] w fun e w' => e = .returned (.int .i64 r) ∧ Below w.heap.size w w' := by
  subst hr
  refine (gOrientSign (RInv.start0 (Ctx.ok_none (Below.refl w.heap.size w))) hw ha.1 ha.2 hb.1 hb.2 hc.1 hc.2).mono ?_
  rintro e w' ⟨v, rfl, ⟨s, rfl, hs⟩, hb⟩
  exact ⟨by rw [hs]; rfl, hb⟩
end Go.Proofs.YthmkllpdkcmccaaGreatDoor
