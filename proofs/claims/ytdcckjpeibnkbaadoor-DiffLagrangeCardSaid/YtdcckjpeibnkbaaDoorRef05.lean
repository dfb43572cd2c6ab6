/-
  The reference of layer 5. (Written by law5.py.)
-/
import Derived.Test.YtdcckjpeibnkbaaDoorRef05c
namespace Go.Proofs.YtdcckjpeibnkbaaDoor
open Go.RowKit
set_option linter.unusedSimpArgs false
set_option linter.unusedVariables false

set_option maxRecDepth 100000 in
set_option maxHeartbeats 4000000 in
theorem gRefBetween {c0 : Ctx} {g0 : Gh} {w : World} {xa ya xb yb : Int} (hI0 : RInv c0 g0 w) (sxa : S xa) (sya : S ya) (sxb : S xb) (syb : S yb) :
    Calls Tryd.prog 10 #[.agg #[.int .i64 xa, .int .i64 ya], .agg #[.int .i64 xb, .int .i64 yb]] w (Gives (VecN 5 (xb - xa) (yb - ya)) g0 w) := by
  obtain ⟨W, hW⟩ : ∃ W, W = ((w.alloc (.cells #[.int .i64 xa, .int .i64 ya] 23)).alloc (.cells #[.int .i64 xb, .int .i64 yb] 23)).alloc (.cells #[.int .i64 0, .slice none 0 0, .int .i64 0, .slice none 0 0] 32) := ⟨_, rfl⟩
  have hb0 : Below w.heap.size w W := by rw [hW]; exact ((((Below.refl _ _).alloc (Nat.le_refl _) _).alloc (by simp) _).alloc (by simp; omega) _)
  have HOK := Ctx.ok_lift (k := w.heap.size + 1 + 1) hI0 hb0 (by omega) (by rw [hW]; simp; try omega)
  have HBX := Lib.hid (show HasBox W (w.heap.size + 1 + 1) 4 by rw [hW]; have := box4' ((w.alloc (.cells #[.int .i64 xa, .int .i64 ya] 23)).alloc (.cells #[.int .i64 xb, .int .i64 yb] 23)) (.int .i64 0) (.slice none 0 0) (.int .i64 0) (.slice none 0 0) 32; simpa using this)
  have C0_W_0 := Lib.hid (show W.cell? ⟨w.heap.size, 0, none⟩ = some (.int .i64 xa) by rw [hW]; simp [go_sem])
  have C0_W_1 := Lib.hid (show W.cell? ⟨w.heap.size, 1, none⟩ = some (.int .i64 ya) by rw [hW]; simp [go_sem])
  have HO0 : Off (lift g0 (w.heap.size + 1 + 1)) (w.heap.size) := lift_off (hI0.offs _ (by omega)) (by omega)
  have C1_W_0 := Lib.hid (show W.cell? ⟨w.heap.size + 1, 0, none⟩ = some (.int .i64 xb) by rw [hW]; simp [go_sem])
  have C1_W_1 := Lib.hid (show W.cell? ⟨w.heap.size + 1, 1, none⟩ = some (.int .i64 yb) by rw [hW]; simp [go_sem])
  have HO1 : Off (lift g0 (w.heap.size + 1 + 1)) (w.heap.size + 1) := lift_off (hI0.offs _ (by omega)) (by omega)
  have HW := Lib.hid hW
  clear hW
  go_enter Tryd.func10, Tryd.ntmps10
  go_upto_region 1 with (fail)
  rw [← HW.out]
  refine box_plan (c := ⟨w, W, (lift g0 (w.heap.size + 1 + 1))⟩) HOK (by kernel_rfl) [[], [(5, 0)], [], [(7, 2)], [(6, 1), (8, 3)], [], [(10, 5)], [], [(12, 7)], [(11, 6), (13, 8)], [(9, 4), (14, 9)], [(15, 10)]] [(5, 0), (6, 1), (7, 2), (8, 3), (9, 4), (10, 5), (11, 6), (12, 7), (13, 8), (14, 9), (15, 10)] [
      (fun v _ _ => v = .pointer (some ⟨w.heap.size + 1, 0, none⟩)),
      (fun v _ _ => v = .int .i64 xb),
      (fun v _ _ => v = .pointer (some ⟨w.heap.size, 0, none⟩)),
      (fun v _ _ => v = .int .i64 xa),
      NumG 5 (xb - xa),
      (fun v _ _ => v = .pointer (some ⟨w.heap.size + 1, 1, none⟩)),
      (fun v _ _ => v = .int .i64 yb),
      (fun v _ _ => v = .pointer (some ⟨w.heap.size, 1, none⟩)),
      (fun v _ _ => v = .int .i64 ya),
      NumG 5 (yb - ya),
      VecN 5 (xb - xa) (yb - ya),
      (fun _ g w => BoxR 1000 (VecN 5 (xb - xa) (yb - ya)) g w)
    ] (fun i => match i with | 1000 => some 11 | _ => none) (by kernel_rfl) (by kernel_rfl) ⟨stab_eq, stab_eq, stab_eq, stab_eq, stab_firm (numG_firm _ _), stab_eq, stab_eq, stab_eq, stab_eq, stab_firm (numG_firm _ _), stab_firm (vecN_firm _ _ _), stab_box (vecN_firm _ _ _) rfl, trivial⟩ ?steps ?fin
  case steps =>
    refine ⟨?_, ?_, ?_, ?_, ?_, ?_, ?_, ?_, ?_, ?_, ?_, ?_, trivial⟩
    · intro vs g w2 hI hF hR K hK
      simp only [Facts, fill, Act.put, z1, z2, z3, z4, z5, Nat.reduceAdd] at hF hR hK ⊢
      go_simp
      exact hK _ _ _ hI (Step.refl hI) rfl
    · intro vs g w2 hI hF hR K hK
      simp only [Facts, fill, Act.put, z1, z2, z3, z4, z5, Nat.reduceAdd] at hF hR hK ⊢
      obtain ⟨r0, -⟩ := hR
      generalize vs 0 = x0 at *
      subst r0
      have k0 := hI.cell C1_W_0.out (by first | exact HO0 | exact HO1)
      go_simp
      exact hK _ _ _ hI (Step.refl hI) rfl
    · intro vs g w2 hI hF hR K hK
      simp only [Facts, fill, Act.put, z1, z2, z3, z4, z5, Nat.reduceAdd] at hF hR hK ⊢
      go_simp
      exact hK _ _ _ hI (Step.refl hI) rfl
    · intro vs g w2 hI hF hR K hK
      simp only [Facts, fill, Act.put, z1, z2, z3, z4, z5, Nat.reduceAdd] at hF hR hK ⊢
      obtain ⟨r2, -⟩ := hR
      generalize vs 2 = x2 at *
      subst r2
      have k0 := hI.cell C0_W_0.out (by first | exact HO0 | exact HO1)
      go_simp
      exact hK _ _ _ hI (Step.refl hI) rfl
    · intro vs g w2 hI hF hR K hK
      simp only [Facts, fill, Act.put, z1, z2, z3, z4, z5, Nat.reduceAdd] at hF hR hK ⊢
      obtain ⟨r1, r3, -⟩ := hR
      generalize vs 1 = x1, vs 3 = x3 at *
      subst r1 r3
      go_simp
      refine (gRefCoord hI (by first | assumption | (unfold S; decide)) (by first | assumption | (unfold S; decide))).mono ?_
      rintro e w3 ⟨v3, rfl, hv, hb⟩
      exact hK _ _ _ (hI.call hb) (Step.call hI hb) hv
    · intro vs g w2 hI hF hR K hK
      simp only [Facts, fill, Act.put, z1, z2, z3, z4, z5, Nat.reduceAdd] at hF hR hK ⊢
      go_simp
      exact hK _ _ _ hI (Step.refl hI) rfl
    · intro vs g w2 hI hF hR K hK
      simp only [Facts, fill, Act.put, z1, z2, z3, z4, z5, Nat.reduceAdd] at hF hR hK ⊢
      obtain ⟨r5, -⟩ := hR
      generalize vs 5 = x5 at *
      subst r5
      have k0 := hI.cell C1_W_1.out (by first | exact HO0 | exact HO1)
      go_simp
      exact hK _ _ _ hI (Step.refl hI) rfl
    · intro vs g w2 hI hF hR K hK
      simp only [Facts, fill, Act.put, z1, z2, z3, z4, z5, Nat.reduceAdd] at hF hR hK ⊢
      go_simp
      exact hK _ _ _ hI (Step.refl hI) rfl
    · intro vs g w2 hI hF hR K hK
      simp only [Facts, fill, Act.put, z1, z2, z3, z4, z5, Nat.reduceAdd] at hF hR hK ⊢
      obtain ⟨r7, -⟩ := hR
      generalize vs 7 = x7 at *
      subst r7
      have k0 := hI.cell C0_W_1.out (by first | exact HO0 | exact HO1)
      go_simp
      exact hK _ _ _ hI (Step.refl hI) rfl
    · intro vs g w2 hI hF hR K hK
      simp only [Facts, fill, Act.put, z1, z2, z3, z4, z5, Nat.reduceAdd] at hF hR hK ⊢
      obtain ⟨r6, r8, -⟩ := hR
      generalize vs 6 = x6, vs 8 = x8 at *
      subst r6 r8
      go_simp
      refine (gRefCoord hI (by first | assumption | (unfold S; decide)) (by first | assumption | (unfold S; decide))).mono ?_
      rintro e w3 ⟨v3, rfl, hv, hb⟩
      exact hK _ _ _ (hI.call hb) (Step.call hI hb) hv
    · intro vs g w2 hI hF hR K hK
      simp only [Facts, fill, Act.put, z1, z2, z3, z4, z5, Nat.reduceAdd] at hF hR hK ⊢
      obtain ⟨r4, r9, -⟩ := hR
      generalize vs 4 = x4, vs 9 = x9 at *
      have q0 := r4
      have q1 := r9
      obtain ⟨s0, A0, n0, c0, rfl, -⟩ := numG_open r4
      obtain ⟨s1, A1, n1, c1, rfl, -⟩ := numG_open r9
      go_simp
      exact hK _ _ _ hI (Step.refl hI) (vecN_mk q0 q1)
    · intro vs g w2 hI hF hR K hK
      simp only [Facts, fill, Act.put, z1, z2, z3, z4, z5, Nat.reduceAdd] at hF hR hK ⊢
      obtain ⟨r10, -⟩ := hR
      generalize vs 10 = x10 at *
      have hk := hI.keep0 1000 _ (lift_at g0 (w.heap.size + 1 + 1))
      have hbx := hI.box0 1000 _ 4 (lift_at g0 (w.heap.size + 1 + 1)) HBX.out
      have qx := r10
      obtain ⟨s11, A11, n11, c11, t11, B11, m11, d11, rfl⟩ := vecN_open r10
      obtain ⟨⟨u0, k0⟩, f0⟩ := hbx 0 (by decide)
      obtain ⟨⟨u1, k1⟩, f1⟩ := hbx 1 (by decide)
      obtain ⟨⟨u2, k2⟩, f2⟩ := hbx 2 (by decide)
      obtain ⟨⟨u3, k3⟩, f3⟩ := hbx 3 (by decide)
      go_simp
      have ht := (((((Touch.refl w2 (w.heap.size + 1 + 1)).set 0 (.int .i64 s11)).set 1 (.slice A11 n11 c11)).set 2 (.int .i64 t11)).set 3 (.slice B11 m11 d11))
      exact hK undef _ _ (hI.store (by decide) hk ht) (Step.store hI rfl hk ht) ⟨(w.heap.size + 1 + 1), .agg #[.int .i64 s11, .slice A11 n11 c11, .int .i64 t11, .slice B11 m11 d11], hk, by rw [ht.size]; exact hI.lt _ _ hk, cells4 k0 k1 k2 k3 (.int .i64 s11) (.slice A11 n11 c11) (.int .i64 t11) (.slice B11 m11 d11), ((vecN_firm _ _ _) _ _ _ _ _ qx (ht.keeps hk))⟩
  case fin =>
    intro vs g wR1 hI hR
    have r11 := hR 11 (by decide)
    simp only [fill, Act.put, z1, z2, z3, z4, z5] at r11 ⊢
    clear hR
    generalize vs 11 = x11 at *
    have C0_R1_0 := Lib.hid (hI.cell C0_W_0.out (by first | exact HO0 | exact HO1))
    have C0_R1_1 := Lib.hid (hI.cell C0_W_1.out (by first | exact HO0 | exact HO1))
    have C1_R1_0 := Lib.hid (hI.cell C1_W_0.out (by first | exact HO0 | exact HO1))
    have C1_R1_1 := Lib.hid (hI.cell C1_W_1.out (by first | exact HO0 | exact HO1))
    have hkR14 := hI.keep0 1000 _ (lift_at g0 (w.heap.size + 1 + 1))
    obtain ⟨qR14, uR14, hqR14, -, hcR14, hrR14⟩ := r11
    rw [hkR14] at hqR14
    injection hqR14 with hqR14
    subst hqR14
    have qfR14 := hrR14
    obtain ⟨svR14, AvR14, nvR14, cvR14, tvR14, BvR14, mvR14, dvR14, rfl⟩ := vecN_open hrR14
    have FR14_R1_0 := Lib.hid ((vecN_firm _ _ _) _ _ _ _ _ qfR14 hI.back)
    clear qfR14
    have FR14_R1_1 := Lib.hid (vecN_x FR14_R1_0.out)
    have FR14_R1_3 := Lib.hid (vecN_y FR14_R1_0.out)
    have CR14_R1_0 := Lib.hid (hcR14 0 _ rfl)
    have CR14_R1_1 := Lib.hid (hcR14 1 _ rfl)
    have CR14_R1_2 := Lib.hid (hcR14 2 _ rfl)
    have CR14_R1_3 := Lib.hid (hcR14 3 _ rfl)
    clear hcR14 hkR14
    have hBR1 := hI.below
    have HCR1 := hI.next HOK
    clear hI
    go_wp2
    exact bodyPost_ret (v := .agg #[.int .i64 svR14, .slice AvR14 nvR14 cvR14, .int .i64 tvR14, .slice BvR14 mvR14 dvR14]) (by simp [results, Tryd.results10, go_sem, CR14_R1_0.out, CR14_R1_1.out, CR14_R1_2.out, CR14_R1_3.out]) rfl ⟨_, rfl, (vecN_firm _ _ _) _ _ _ _ _ FR14_R1_0.out keeps_out, hBR1⟩
set_option maxRecDepth 100000 in
set_option maxHeartbeats 4000000 in
theorem gRefCross {c0 : Ctx} {g0 : Gh} {w : World} {va vb : Value} {L M : Nat} {xa ya xb yb : Int} (hI0 : RInv c0 g0 w) (ha : VecN L xa ya va g0 w) (hb : VecN M xb yb vb g0 w) (hL : L ≤ 4000) (hM : M ≤ 4000) :
    Calls Tryd.prog 16 #[va, vb] w (Gives (NumG (L + M + 1) (xa * yb - ya * xb)) g0 w) := by
  have qa := ha
  have qb := hb
  obtain ⟨sa, Aa, na, ca, ta, Ba, ma, da, rfl⟩ := vecN_open ha
  obtain ⟨sb, Ab, nb, cb, tb, Bb, mb, db, rfl⟩ := vecN_open hb
  obtain ⟨W, hW⟩ : ∃ W, W = ((w.alloc (.cells #[.int .i64 sa, .slice Aa na ca, .int .i64 ta, .slice Ba ma da] 32)).alloc (.cells #[.int .i64 sb, .slice Ab nb cb, .int .i64 tb, .slice Bb mb db] 32)).alloc (.cells #[.int .i64 0, .slice none 0 0] 30) := ⟨_, rfl⟩
  have hb0 : Below w.heap.size w W := by rw [hW]; exact ((((Below.refl _ _).alloc (Nat.le_refl _) _).alloc (by simp) _).alloc (by simp; omega) _)
  have HOK := Ctx.ok_lift (k := w.heap.size + 1 + 1) hI0 hb0 (by omega) (by rw [hW]; simp; try omega)
  have HBX := Lib.hid (show HasBox W (w.heap.size + 1 + 1) 2 by rw [hW]; have := box2' ((w.alloc (.cells #[.int .i64 sa, .slice Aa na ca, .int .i64 ta, .slice Ba ma da] 32)).alloc (.cells #[.int .i64 sb, .slice Ab nb cb, .int .i64 tb, .slice Bb mb db] 32)) (.int .i64 0) (.slice none 0 0) 30; simpa using this)
  have C0_W_0 := Lib.hid (show W.cell? ⟨w.heap.size, 0, none⟩ = some (.int .i64 sa) by rw [hW]; simp [go_sem])
  have C0_W_1 := Lib.hid (show W.cell? ⟨w.heap.size, 1, none⟩ = some (.slice Aa na ca) by rw [hW]; simp [go_sem])
  have C0_W_2 := Lib.hid (show W.cell? ⟨w.heap.size, 2, none⟩ = some (.int .i64 ta) by rw [hW]; simp [go_sem])
  have C0_W_3 := Lib.hid (show W.cell? ⟨w.heap.size, 3, none⟩ = some (.slice Ba ma da) by rw [hW]; simp [go_sem])
  have Fa_W_02 := Lib.hid ((numG_firm _ _) _ _ _ _ _ (vecN_x qa) (keeps_lift (k := w.heap.size + 1 + 1) hb0 (by omega)))
  have Fa_W_22 := Lib.hid ((numG_firm _ _) _ _ _ _ _ (vecN_y qa) (keeps_lift (k := w.heap.size + 1 + 1) hb0 (by omega)))
  have HO0 : Off (lift g0 (w.heap.size + 1 + 1)) (w.heap.size) := lift_off (hI0.offs _ (by omega)) (by omega)
  have C1_W_0 := Lib.hid (show W.cell? ⟨w.heap.size + 1, 0, none⟩ = some (.int .i64 sb) by rw [hW]; simp [go_sem])
  have C1_W_1 := Lib.hid (show W.cell? ⟨w.heap.size + 1, 1, none⟩ = some (.slice Ab nb cb) by rw [hW]; simp [go_sem])
  have C1_W_2 := Lib.hid (show W.cell? ⟨w.heap.size + 1, 2, none⟩ = some (.int .i64 tb) by rw [hW]; simp [go_sem])
  have C1_W_3 := Lib.hid (show W.cell? ⟨w.heap.size + 1, 3, none⟩ = some (.slice Bb mb db) by rw [hW]; simp [go_sem])
  have Fb_W_02 := Lib.hid ((numG_firm _ _) _ _ _ _ _ (vecN_x qb) (keeps_lift (k := w.heap.size + 1 + 1) hb0 (by omega)))
  have Fb_W_22 := Lib.hid ((numG_firm _ _) _ _ _ _ _ (vecN_y qb) (keeps_lift (k := w.heap.size + 1 + 1) hb0 (by omega)))
  have HO1 : Off (lift g0 (w.heap.size + 1 + 1)) (w.heap.size + 1) := lift_off (hI0.offs _ (by omega)) (by omega)
  have HW := Lib.hid hW
  clear hW
  go_enter Tryd.func16, Tryd.ntmps16
  go_upto_region 1 with (fail)
  rw [← HW.out]
  refine box_plan (c := ⟨w, W, (lift g0 (w.heap.size + 1 + 1))⟩) HOK (by kernel_rfl) [[], [(5, 0)], [], [(7, 2)], [(6, 1), (8, 3)], [], [(10, 5)], [], [(12, 7)], [(11, 6), (13, 8)], [(9, 4), (14, 9)], [(15, 10)]] [(5, 0), (6, 1), (7, 2), (8, 3), (9, 4), (10, 5), (11, 6), (12, 7), (13, 8), (14, 9), (15, 10)] [
      (fun v _ _ => v = .pointer (some ⟨w.heap.size, 0, none⟩)),
      (fun v _ _ => v = .agg #[.int .i64 sa, .slice Aa na ca]),
      (fun v _ _ => v = .pointer (some ⟨w.heap.size + 1, 2, none⟩)),
      (fun v _ _ => v = .agg #[.int .i64 tb, .slice Bb mb db]),
      NumG (L + M) (xa * yb),
      (fun v _ _ => v = .pointer (some ⟨w.heap.size, 2, none⟩)),
      (fun v _ _ => v = .agg #[.int .i64 ta, .slice Ba ma da]),
      (fun v _ _ => v = .pointer (some ⟨w.heap.size + 1, 0, none⟩)),
      (fun v _ _ => v = .agg #[.int .i64 sb, .slice Ab nb cb]),
      NumG (L + M) (ya * xb),
      NumG (L + M + 1) ((xa * yb) - (ya * xb)),
      (fun _ g w => BoxR 1000 (NumG (L + M + 1) ((xa * yb) - (ya * xb))) g w)
    ] (fun i => match i with | 1000 => some 11 | _ => none) (by kernel_rfl) (by kernel_rfl) ⟨stab_eq, stab_eq, stab_eq, stab_eq, stab_firm (numG_firm _ _), stab_eq, stab_eq, stab_eq, stab_eq, stab_firm (numG_firm _ _), stab_firm (numG_firm _ _), stab_box (numG_firm _ _) rfl, trivial⟩ ?steps ?fin
  case steps =>
    refine ⟨?_, ?_, ?_, ?_, ?_, ?_, ?_, ?_, ?_, ?_, ?_, ?_, trivial⟩
    · intro vs g w2 hI hF hR K hK
      simp only [Facts, fill, Act.put, z1, z2, z3, z4, z5, Nat.reduceAdd] at hF hR hK ⊢
      go_simp
      exact hK _ _ _ hI (Step.refl hI) rfl
    · intro vs g w2 hI hF hR K hK
      simp only [Facts, fill, Act.put, z1, z2, z3, z4, z5, Nat.reduceAdd] at hF hR hK ⊢
      obtain ⟨r0, -⟩ := hR
      generalize vs 0 = x0 at *
      subst r0
      have k0 := hI.cell C0_W_0.out (by first | exact HO0 | exact HO1)
      have k1 := hI.cell C0_W_1.out (by first | exact HO0 | exact HO1)
      go_simp
      exact hK _ _ _ hI (Step.refl hI) rfl
    · intro vs g w2 hI hF hR K hK
      simp only [Facts, fill, Act.put, z1, z2, z3, z4, z5, Nat.reduceAdd] at hF hR hK ⊢
      go_simp
      exact hK _ _ _ hI (Step.refl hI) rfl
    · intro vs g w2 hI hF hR K hK
      simp only [Facts, fill, Act.put, z1, z2, z3, z4, z5, Nat.reduceAdd] at hF hR hK ⊢
      obtain ⟨r2, -⟩ := hR
      generalize vs 2 = x2 at *
      subst r2
      have k0 := hI.cell C1_W_2.out (by first | exact HO0 | exact HO1)
      have k1 := hI.cell C1_W_3.out (by first | exact HO0 | exact HO1)
      go_simp
      exact hK _ _ _ hI (Step.refl hI) rfl
    · intro vs g w2 hI hF hR K hK
      simp only [Facts, fill, Act.put, z1, z2, z3, z4, z5, Nat.reduceAdd] at hF hR hK ⊢
      obtain ⟨r1, r3, -⟩ := hR
      generalize vs 1 = x1, vs 3 = x3 at *
      subst r1 r3
      go_simp
      refine (gMul hI ((numG_firm _ _) _ _ _ _ _ Fa_W_02.out hI.keeps) ((numG_firm _ _) _ _ _ _ _ Fb_W_22.out hI.keeps) (by omega) (by omega)).mono ?_
      rintro e w3 ⟨v3, rfl, hv, hb⟩
      exact hK _ _ _ (hI.call hb) (Step.call hI hb) hv
    · intro vs g w2 hI hF hR K hK
      simp only [Facts, fill, Act.put, z1, z2, z3, z4, z5, Nat.reduceAdd] at hF hR hK ⊢
      go_simp
      exact hK _ _ _ hI (Step.refl hI) rfl
    · intro vs g w2 hI hF hR K hK
      simp only [Facts, fill, Act.put, z1, z2, z3, z4, z5, Nat.reduceAdd] at hF hR hK ⊢
      obtain ⟨r5, -⟩ := hR
      generalize vs 5 = x5 at *
      subst r5
      have k0 := hI.cell C0_W_2.out (by first | exact HO0 | exact HO1)
      have k1 := hI.cell C0_W_3.out (by first | exact HO0 | exact HO1)
      go_simp
      exact hK _ _ _ hI (Step.refl hI) rfl
    · intro vs g w2 hI hF hR K hK
      simp only [Facts, fill, Act.put, z1, z2, z3, z4, z5, Nat.reduceAdd] at hF hR hK ⊢
      go_simp
      exact hK _ _ _ hI (Step.refl hI) rfl
    · intro vs g w2 hI hF hR K hK
      simp only [Facts, fill, Act.put, z1, z2, z3, z4, z5, Nat.reduceAdd] at hF hR hK ⊢
      obtain ⟨r7, -⟩ := hR
      generalize vs 7 = x7 at *
      subst r7
      have k0 := hI.cell C1_W_0.out (by first | exact HO0 | exact HO1)
      have k1 := hI.cell C1_W_1.out (by first | exact HO0 | exact HO1)
      go_simp
      exact hK _ _ _ hI (Step.refl hI) rfl
    · intro vs g w2 hI hF hR K hK
      simp only [Facts, fill, Act.put, z1, z2, z3, z4, z5, Nat.reduceAdd] at hF hR hK ⊢
      obtain ⟨r6, r8, -⟩ := hR
      generalize vs 6 = x6, vs 8 = x8 at *
      subst r6 r8
      go_simp
      refine (gMul hI ((numG_firm _ _) _ _ _ _ _ Fa_W_22.out hI.keeps) ((numG_firm _ _) _ _ _ _ _ Fb_W_02.out hI.keeps) (by omega) (by omega)).mono ?_
      rintro e w3 ⟨v3, rfl, hv, hb⟩
      exact hK _ _ _ (hI.call hb) (Step.call hI hb) hv
    · intro vs g w2 hI hF hR K hK
      simp only [Facts, fill, Act.put, z1, z2, z3, z4, z5, Nat.reduceAdd] at hF hR hK ⊢
      obtain ⟨r4, r9, -⟩ := hR
      generalize vs 4 = x4, vs 9 = x9 at *
      go_simp
      refine (gSubE hI r4 r9 (by omega)).mono ?_
      rintro e w3 ⟨v3, rfl, hv, hb⟩
      exact hK _ _ _ (hI.call hb) (Step.call hI hb) hv
    · intro vs g w2 hI hF hR K hK
      simp only [Facts, fill, Act.put, z1, z2, z3, z4, z5, Nat.reduceAdd] at hF hR hK ⊢
      obtain ⟨r10, -⟩ := hR
      generalize vs 10 = x10 at *
      have hk := hI.keep0 1000 _ (lift_at g0 (w.heap.size + 1 + 1))
      have hbx := hI.box0 1000 _ 2 (lift_at g0 (w.heap.size + 1 + 1)) HBX.out
      have qx := r10
      obtain ⟨s11, A11, n11, c11, rfl, hs11⟩ := numG_open r10
      obtain ⟨⟨u0, k0⟩, f0⟩ := hbx 0 (by decide)
      obtain ⟨⟨u1, k1⟩, f1⟩ := hbx 1 (by decide)
      go_simp
      have ht := (((Touch.refl w2 (w.heap.size + 1 + 1)).set 0 (.int .i64 s11)).set 1 (.slice A11 n11 c11))
      exact hK undef _ _ (hI.store (by decide) hk ht) (Step.store hI rfl hk ht) ⟨(w.heap.size + 1 + 1), .agg #[.int .i64 s11, .slice A11 n11 c11], hk, by rw [ht.size]; exact hI.lt _ _ hk, cells2 k0 k1 (.int .i64 s11) (.slice A11 n11 c11), ((numG_firm _ _) _ _ _ _ _ qx (ht.keeps hk))⟩
  case fin =>
    intro vs g wR1 hI hR
    have r11 := hR 11 (by decide)
    simp only [fill, Act.put, z1, z2, z3, z4, z5] at r11 ⊢
    clear hR
    generalize vs 11 = x11 at *
    have C0_R1_0 := Lib.hid (hI.cell C0_W_0.out (by first | exact HO0 | exact HO1))
    have C0_R1_1 := Lib.hid (hI.cell C0_W_1.out (by first | exact HO0 | exact HO1))
    have C0_R1_2 := Lib.hid (hI.cell C0_W_2.out (by first | exact HO0 | exact HO1))
    have C0_R1_3 := Lib.hid (hI.cell C0_W_3.out (by first | exact HO0 | exact HO1))
    have Fa_R1_02 := Lib.hid ((numG_firm _ _) _ _ _ _ _ Fa_W_02.out hI.carry)
    have Fa_R1_22 := Lib.hid ((numG_firm _ _) _ _ _ _ _ Fa_W_22.out hI.carry)
    have C1_R1_0 := Lib.hid (hI.cell C1_W_0.out (by first | exact HO0 | exact HO1))
    have C1_R1_1 := Lib.hid (hI.cell C1_W_1.out (by first | exact HO0 | exact HO1))
    have C1_R1_2 := Lib.hid (hI.cell C1_W_2.out (by first | exact HO0 | exact HO1))
    have C1_R1_3 := Lib.hid (hI.cell C1_W_3.out (by first | exact HO0 | exact HO1))
    have Fb_R1_02 := Lib.hid ((numG_firm _ _) _ _ _ _ _ Fb_W_02.out hI.carry)
    have Fb_R1_22 := Lib.hid ((numG_firm _ _) _ _ _ _ _ Fb_W_22.out hI.carry)
    have hkR14 := hI.keep0 1000 _ (lift_at g0 (w.heap.size + 1 + 1))
    obtain ⟨qR14, uR14, hqR14, -, hcR14, hrR14⟩ := r11
    rw [hkR14] at hqR14
    injection hqR14 with hqR14
    subst hqR14
    have qfR14 := hrR14
    obtain ⟨svR14, AvR14, nvR14, cvR14, rfl, hsvR14⟩ := numG_open hrR14
    have FR14_R1_0 := Lib.hid ((numG_firm _ _) _ _ _ _ _ qfR14 hI.back)
    clear qfR14
    have FR14_R1_1 := Lib.hid (numG_sign FR14_R1_0.out)
    have CR14_R1_0 := Lib.hid (hcR14 0 _ rfl)
    have CR14_R1_1 := Lib.hid (hcR14 1 _ rfl)
    clear hcR14 hkR14
    have hBR1 := hI.below
    have HCR1 := hI.next HOK
    clear hI
    go_wp2
    exact bodyPost_ret (v := .agg #[.int .i64 svR14, .slice AvR14 nvR14 cvR14]) (by simp [results, Tryd.results16, go_sem, CR14_R1_0.out, CR14_R1_1.out]) rfl ⟨_, rfl, (numG_firm _ _) _ _ _ _ _ FR14_R1_0.out keeps_out, hBR1⟩
set_option maxRecDepth 100000 in
set_option maxHeartbeats 4000000 in
theorem gRefDot {c0 : Ctx} {g0 : Gh} {w : World} {va vb : Value} {L M : Nat} {xa ya xb yb : Int} (hI0 : RInv c0 g0 w) (ha : VecN L xa ya va g0 w) (hb : VecN M xb yb vb g0 w) (hL : L ≤ 4000) (hM : M ≤ 4000) :
    Calls Tryd.prog 18 #[va, vb] w (Gives (NumG (L + M + 1) (xa * xb + ya * yb)) g0 w) := by
  have qa := ha
  have qb := hb
  obtain ⟨sa, Aa, na, ca, ta, Ba, ma, da, rfl⟩ := vecN_open ha
  obtain ⟨sb, Ab, nb, cb, tb, Bb, mb, db, rfl⟩ := vecN_open hb
  obtain ⟨W, hW⟩ : ∃ W, W = ((w.alloc (.cells #[.int .i64 sa, .slice Aa na ca, .int .i64 ta, .slice Ba ma da] 32)).alloc (.cells #[.int .i64 sb, .slice Ab nb cb, .int .i64 tb, .slice Bb mb db] 32)).alloc (.cells #[.int .i64 0, .slice none 0 0] 30) := ⟨_, rfl⟩
  have hb0 : Below w.heap.size w W := by rw [hW]; exact ((((Below.refl _ _).alloc (Nat.le_refl _) _).alloc (by simp) _).alloc (by simp; omega) _)
  have HOK := Ctx.ok_lift (k := w.heap.size + 1 + 1) hI0 hb0 (by omega) (by rw [hW]; simp; try omega)
  have HBX := Lib.hid (show HasBox W (w.heap.size + 1 + 1) 2 by rw [hW]; have := box2' ((w.alloc (.cells #[.int .i64 sa, .slice Aa na ca, .int .i64 ta, .slice Ba ma da] 32)).alloc (.cells #[.int .i64 sb, .slice Ab nb cb, .int .i64 tb, .slice Bb mb db] 32)) (.int .i64 0) (.slice none 0 0) 30; simpa using this)
  have C0_W_0 := Lib.hid (show W.cell? ⟨w.heap.size, 0, none⟩ = some (.int .i64 sa) by rw [hW]; simp [go_sem])
  have C0_W_1 := Lib.hid (show W.cell? ⟨w.heap.size, 1, none⟩ = some (.slice Aa na ca) by rw [hW]; simp [go_sem])
  have C0_W_2 := Lib.hid (show W.cell? ⟨w.heap.size, 2, none⟩ = some (.int .i64 ta) by rw [hW]; simp [go_sem])
  have C0_W_3 := Lib.hid (show W.cell? ⟨w.heap.size, 3, none⟩ = some (.slice Ba ma da) by rw [hW]; simp [go_sem])
  have Fa_W_02 := Lib.hid ((numG_firm _ _) _ _ _ _ _ (vecN_x qa) (keeps_lift (k := w.heap.size + 1 + 1) hb0 (by omega)))
  have Fa_W_22 := Lib.hid ((numG_firm _ _) _ _ _ _ _ (vecN_y qa) (keeps_lift (k := w.heap.size + 1 + 1) hb0 (by omega)))
  have HO0 : Off (lift g0 (w.heap.size + 1 + 1)) (w.heap.size) := lift_off (hI0.offs _ (by omega)) (by omega)
  have C1_W_0 := Lib.hid (show W.cell? ⟨w.heap.size + 1, 0, none⟩ = some (.int .i64 sb) by rw [hW]; simp [go_sem])
  have C1_W_1 := Lib.hid (show W.cell? ⟨w.heap.size + 1, 1, none⟩ = some (.slice Ab nb cb) by rw [hW]; simp [go_sem])
  have C1_W_2 := Lib.hid (show W.cell? ⟨w.heap.size + 1, 2, none⟩ = some (.int .i64 tb) by rw [hW]; simp [go_sem])
  have C1_W_3 := Lib.hid (show W.cell? ⟨w.heap.size + 1, 3, none⟩ = some (.slice Bb mb db) by rw [hW]; simp [go_sem])
  have Fb_W_02 := Lib.hid ((numG_firm _ _) _ _ _ _ _ (vecN_x qb) (keeps_lift (k := w.heap.size + 1 + 1) hb0 (by omega)))
  have Fb_W_22 := Lib.hid ((numG_firm _ _) _ _ _ _ _ (vecN_y qb) (keeps_lift (k := w.heap.size + 1 + 1) hb0 (by omega)))
  have HO1 : Off (lift g0 (w.heap.size + 1 + 1)) (w.heap.size + 1) := lift_off (hI0.offs _ (by omega)) (by omega)
  have HW := Lib.hid hW
  clear hW
  go_enter Tryd.func18, Tryd.ntmps18
  go_upto_region 1 with (fail)
  rw [← HW.out]
  refine box_plan (c := ⟨w, W, (lift g0 (w.heap.size + 1 + 1))⟩) HOK (by kernel_rfl) [[], [(5, 0)], [], [(7, 2)], [(6, 1), (8, 3)], [], [(10, 5)], [], [(12, 7)], [(11, 6), (13, 8)], [(9, 4), (14, 9)], [(15, 10)]] [(5, 0), (6, 1), (7, 2), (8, 3), (9, 4), (10, 5), (11, 6), (12, 7), (13, 8), (14, 9), (15, 10)] [
      (fun v _ _ => v = .pointer (some ⟨w.heap.size, 0, none⟩)),
      (fun v _ _ => v = .agg #[.int .i64 sa, .slice Aa na ca]),
      (fun v _ _ => v = .pointer (some ⟨w.heap.size + 1, 0, none⟩)),
      (fun v _ _ => v = .agg #[.int .i64 sb, .slice Ab nb cb]),
      NumG (L + M) (xa * xb),
      (fun v _ _ => v = .pointer (some ⟨w.heap.size, 2, none⟩)),
      (fun v _ _ => v = .agg #[.int .i64 ta, .slice Ba ma da]),
      (fun v _ _ => v = .pointer (some ⟨w.heap.size + 1, 2, none⟩)),
      (fun v _ _ => v = .agg #[.int .i64 tb, .slice Bb mb db]),
      NumG (L + M) (ya * yb),
      NumG (L + M + 1) ((xa * xb) + (ya * yb)),
      (fun _ g w => BoxR 1000 (NumG (L + M + 1) ((xa * xb) + (ya * yb))) g w)
    ] (fun i => match i with | 1000 => some 11 | _ => none) (by kernel_rfl) (by kernel_rfl) ⟨stab_eq, stab_eq, stab_eq, stab_eq, stab_firm (numG_firm _ _), stab_eq, stab_eq, stab_eq, stab_eq, stab_firm (numG_firm _ _), stab_firm (numG_firm _ _), stab_box (numG_firm _ _) rfl, trivial⟩ ?steps ?fin
  case steps =>
    refine ⟨?_, ?_, ?_, ?_, ?_, ?_, ?_, ?_, ?_, ?_, ?_, ?_, trivial⟩
    · intro vs g w2 hI hF hR K hK
      simp only [Facts, fill, Act.put, z1, z2, z3, z4, z5, Nat.reduceAdd] at hF hR hK ⊢
      go_simp
      exact hK _ _ _ hI (Step.refl hI) rfl
    · intro vs g w2 hI hF hR K hK
      simp only [Facts, fill, Act.put, z1, z2, z3, z4, z5, Nat.reduceAdd] at hF hR hK ⊢
      obtain ⟨r0, -⟩ := hR
      generalize vs 0 = x0 at *
      subst r0
      have k0 := hI.cell C0_W_0.out (by first | exact HO0 | exact HO1)
      have k1 := hI.cell C0_W_1.out (by first | exact HO0 | exact HO1)
      go_simp
      exact hK _ _ _ hI (Step.refl hI) rfl
    · intro vs g w2 hI hF hR K hK
      simp only [Facts, fill, Act.put, z1, z2, z3, z4, z5, Nat.reduceAdd] at hF hR hK ⊢
      go_simp
      exact hK _ _ _ hI (Step.refl hI) rfl
    · intro vs g w2 hI hF hR K hK
      simp only [Facts, fill, Act.put, z1, z2, z3, z4, z5, Nat.reduceAdd] at hF hR hK ⊢
      obtain ⟨r2, -⟩ := hR
      generalize vs 2 = x2 at *
      subst r2
      have k0 := hI.cell C1_W_0.out (by first | exact HO0 | exact HO1)
      have k1 := hI.cell C1_W_1.out (by first | exact HO0 | exact HO1)
      go_simp
      exact hK _ _ _ hI (Step.refl hI) rfl
    · intro vs g w2 hI hF hR K hK
      simp only [Facts, fill, Act.put, z1, z2, z3, z4, z5, Nat.reduceAdd] at hF hR hK ⊢
      obtain ⟨r1, r3, -⟩ := hR
      generalize vs 1 = x1, vs 3 = x3 at *
      subst r1 r3
      go_simp
      refine (gMul hI ((numG_firm _ _) _ _ _ _ _ Fa_W_02.out hI.keeps) ((numG_firm _ _) _ _ _ _ _ Fb_W_02.out hI.keeps) (by omega) (by omega)).mono ?_
      rintro e w3 ⟨v3, rfl, hv, hb⟩
      exact hK _ _ _ (hI.call hb) (Step.call hI hb) hv
    · intro vs g w2 hI hF hR K hK
      simp only [Facts, fill, Act.put, z1, z2, z3, z4, z5, Nat.reduceAdd] at hF hR hK ⊢
      go_simp
      exact hK _ _ _ hI (Step.refl hI) rfl
    · intro vs g w2 hI hF hR K hK
      simp only [Facts, fill, Act.put, z1, z2, z3, z4, z5, Nat.reduceAdd] at hF hR hK ⊢
      obtain ⟨r5, -⟩ := hR
      generalize vs 5 = x5 at *
      subst r5
      have k0 := hI.cell C0_W_2.out (by first | exact HO0 | exact HO1)
      have k1 := hI.cell C0_W_3.out (by first | exact HO0 | exact HO1)
      go_simp
      exact hK _ _ _ hI (Step.refl hI) rfl
    · intro vs g w2 hI hF hR K hK
      simp only [Facts, fill, Act.put, z1, z2, z3, z4, z5, Nat.reduceAdd] at hF hR hK ⊢
      go_simp
      exact hK _ _ _ hI (Step.refl hI) rfl
    · intro vs g w2 hI hF hR K hK
      simp only [Facts, fill, Act.put, z1, z2, z3, z4, z5, Nat.reduceAdd] at hF hR hK ⊢
      obtain ⟨r7, -⟩ := hR
      generalize vs 7 = x7 at *
      subst r7
      have k0 := hI.cell C1_W_2.out (by first | exact HO0 | exact HO1)
      have k1 := hI.cell C1_W_3.out (by first | exact HO0 | exact HO1)
      go_simp
      exact hK _ _ _ hI (Step.refl hI) rfl
    · intro vs g w2 hI hF hR K hK
      simp only [Facts, fill, Act.put, z1, z2, z3, z4, z5, Nat.reduceAdd] at hF hR hK ⊢
      obtain ⟨r6, r8, -⟩ := hR
      generalize vs 6 = x6, vs 8 = x8 at *
      subst r6 r8
      go_simp
      refine (gMul hI ((numG_firm _ _) _ _ _ _ _ Fa_W_22.out hI.keeps) ((numG_firm _ _) _ _ _ _ _ Fb_W_22.out hI.keeps) (by omega) (by omega)).mono ?_
      rintro e w3 ⟨v3, rfl, hv, hb⟩
      exact hK _ _ _ (hI.call hb) (Step.call hI hb) hv
    · intro vs g w2 hI hF hR K hK
      simp only [Facts, fill, Act.put, z1, z2, z3, z4, z5, Nat.reduceAdd] at hF hR hK ⊢
      obtain ⟨r4, r9, -⟩ := hR
      generalize vs 4 = x4, vs 9 = x9 at *
      go_simp
      refine (gAddE hI r4 r9 (by omega)).mono ?_
      rintro e w3 ⟨v3, rfl, hv, hb⟩
      exact hK _ _ _ (hI.call hb) (Step.call hI hb) hv
    · intro vs g w2 hI hF hR K hK
      simp only [Facts, fill, Act.put, z1, z2, z3, z4, z5, Nat.reduceAdd] at hF hR hK ⊢
      obtain ⟨r10, -⟩ := hR
      generalize vs 10 = x10 at *
      have hk := hI.keep0 1000 _ (lift_at g0 (w.heap.size + 1 + 1))
      have hbx := hI.box0 1000 _ 2 (lift_at g0 (w.heap.size + 1 + 1)) HBX.out
      have qx := r10
      obtain ⟨s11, A11, n11, c11, rfl, hs11⟩ := numG_open r10
      obtain ⟨⟨u0, k0⟩, f0⟩ := hbx 0 (by decide)
      obtain ⟨⟨u1, k1⟩, f1⟩ := hbx 1 (by decide)
      go_simp
      have ht := (((Touch.refl w2 (w.heap.size + 1 + 1)).set 0 (.int .i64 s11)).set 1 (.slice A11 n11 c11))
      exact hK undef _ _ (hI.store (by decide) hk ht) (Step.store hI rfl hk ht) ⟨(w.heap.size + 1 + 1), .agg #[.int .i64 s11, .slice A11 n11 c11], hk, by rw [ht.size]; exact hI.lt _ _ hk, cells2 k0 k1 (.int .i64 s11) (.slice A11 n11 c11), ((numG_firm _ _) _ _ _ _ _ qx (ht.keeps hk))⟩
  case fin =>
    intro vs g wR1 hI hR
    have r11 := hR 11 (by decide)
    simp only [fill, Act.put, z1, z2, z3, z4, z5] at r11 ⊢
    clear hR
    generalize vs 11 = x11 at *
    have C0_R1_0 := Lib.hid (hI.cell C0_W_0.out (by first | exact HO0 | exact HO1))
    have C0_R1_1 := Lib.hid (hI.cell C0_W_1.out (by first | exact HO0 | exact HO1))
    have C0_R1_2 := Lib.hid (hI.cell C0_W_2.out (by first | exact HO0 | exact HO1))
    have C0_R1_3 := Lib.hid (hI.cell C0_W_3.out (by first | exact HO0 | exact HO1))
    have Fa_R1_02 := Lib.hid ((numG_firm _ _) _ _ _ _ _ Fa_W_02.out hI.carry)
    have Fa_R1_22 := Lib.hid ((numG_firm _ _) _ _ _ _ _ Fa_W_22.out hI.carry)
    have C1_R1_0 := Lib.hid (hI.cell C1_W_0.out (by first | exact HO0 | exact HO1))
    have C1_R1_1 := Lib.hid (hI.cell C1_W_1.out (by first | exact HO0 | exact HO1))
    have C1_R1_2 := Lib.hid (hI.cell C1_W_2.out (by first | exact HO0 | exact HO1))
    have C1_R1_3 := Lib.hid (hI.cell C1_W_3.out (by first | exact HO0 | exact HO1))
    have Fb_R1_02 := Lib.hid ((numG_firm _ _) _ _ _ _ _ Fb_W_02.out hI.carry)
    have Fb_R1_22 := Lib.hid ((numG_firm _ _) _ _ _ _ _ Fb_W_22.out hI.carry)
    have hkR14 := hI.keep0 1000 _ (lift_at g0 (w.heap.size + 1 + 1))
    obtain ⟨qR14, uR14, hqR14, -, hcR14, hrR14⟩ := r11
    rw [hkR14] at hqR14
    injection hqR14 with hqR14
    subst hqR14
    have qfR14 := hrR14
    obtain ⟨svR14, AvR14, nvR14, cvR14, rfl, hsvR14⟩ := numG_open hrR14
    have FR14_R1_0 := Lib.hid ((numG_firm _ _) _ _ _ _ _ qfR14 hI.back)
    clear qfR14
    have FR14_R1_1 := Lib.hid (numG_sign FR14_R1_0.out)
    have CR14_R1_0 := Lib.hid (hcR14 0 _ rfl)
    have CR14_R1_1 := Lib.hid (hcR14 1 _ rfl)
    clear hcR14 hkR14
    have hBR1 := hI.below
    have HCR1 := hI.next HOK
    clear hI
    go_wp2
    exact bodyPost_ret (v := .agg #[.int .i64 svR14, .slice AvR14 nvR14 cvR14]) (by simp [results, Tryd.results18, go_sem, CR14_R1_0.out, CR14_R1_1.out]) rfl ⟨_, rfl, (numG_firm _ _) _ _ _ _ _ FR14_R1_0.out keeps_out, hBR1⟩
end Go.Proofs.YtdcckjpeibnkbaaDoor
