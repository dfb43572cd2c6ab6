/-
  The numbers of a vector. (Written by law5.py.)
-/
import Derived.Test.YtdcckjpeibnkbaaDoorGen5b
namespace Go.Proofs.YtdcckjpeibnkbaaDoor
open Go.RowKit
set_option linter.unusedSimpArgs false
set_option linter.unusedVariables false

set_option maxRecDepth 100000 in
set_option maxHeartbeats 4000000 in
theorem gLawValue {c0 : Ctx} {g0 : Gh} {w : World} {x y : Int} {u : Value} (hI0 : RInv c0 g0 w) (hu : VecL x y u g0 w) (ex : sv (limbs 2 x) = x) (ey : sv (limbs 2 y) = y) :
    Calls Tryd.prog 22 #[u] w (Gives (VecN (4 * 2 + 2) x y) g0 w) := by
  have qu := hu
  obtain ⟨A, c, B, d, rfl⟩ := vecL_open hu
  have EX := Lib.hid ex
  have EY := Lib.hid ey
  clear ex ey
  obtain ⟨W, hW⟩ : ∃ W, W = (w.alloc (.cells #[.slice A 2 c, .slice B 2 d] 43)).alloc (.cells #[.int .i64 0, .slice none 0 0, .int .i64 0, .slice none 0 0] 32) := ⟨_, rfl⟩
  have hb0 : Below w.heap.size w W := by rw [hW]; exact (((Below.refl _ _).alloc (Nat.le_refl _) _).alloc (by simp) _)
  have HOK := Ctx.ok_lift (k := w.heap.size + 1) hI0 hb0 (by omega) (by rw [hW]; simp; try omega)
  have HBX := Lib.hid (show HasBox W (w.heap.size + 1) 4 by rw [hW]; have := box4' (w.alloc (.cells #[.slice A 2 c, .slice B 2 d] 43)) (.int .i64 0) (.slice none 0 0) (.int .i64 0) (.slice none 0 0) 32; simpa using this)
  have C0_W_0 := Lib.hid (show W.cell? ⟨w.heap.size, 0, none⟩ = some (.slice A 2 c) by rw [hW]; simp [go_sem])
  have C0_W_1 := Lib.hid (show W.cell? ⟨w.heap.size, 1, none⟩ = some (.slice B 2 d) by rw [hW]; simp [go_sem])
  have Fu_W_01 := Lib.hid ((limR_firm _ _) _ _ _ _ _ (vecL_x qu) (keeps_lift (k := w.heap.size + 1) hb0 (by omega)))
  have Fu_W_11 := Lib.hid ((limR_firm _ _) _ _ _ _ _ (vecL_y qu) (keeps_lift (k := w.heap.size + 1) hb0 (by omega)))
  have HO0 : Off (lift g0 (w.heap.size + 1)) (w.heap.size) := lift_off (hI0.offs _ (by omega)) (by omega)
  have HW := Lib.hid hW
  clear hW
  go_enter Tryd.func22, Tryd.ntmps22
  go_upto_region 1 with (fail)
  rw [← HW.out]
  refine box_plan (c := ⟨w, W, (lift g0 (w.heap.size + 1))⟩) HOK (by kernel_rfl) [[], [(3, 0)], [(4, 1)], [], [(6, 3)], [(7, 4)], [(5, 2), (8, 5)], [(9, 6)]] [(3, 0), (4, 1), (5, 2), (6, 3), (7, 4), (8, 5), (9, 6)] [
      (fun v _ _ => v = .pointer (some ⟨w.heap.size, 0, none⟩)),
      (fun v _ _ => v = .slice A 2 c),
      NumG (4 * 2 + 2) x,
      (fun v _ _ => v = .pointer (some ⟨w.heap.size, 1, none⟩)),
      (fun v _ _ => v = .slice B 2 d),
      NumG (4 * 2 + 2) y,
      VecN (4 * 2 + 2) x y,
      (fun _ g w => BoxR 1000 (VecN (4 * 2 + 2) x y) g w)
    ] (fun i => match i with | 1000 => some 7 | _ => none) (by kernel_rfl) (by kernel_rfl) ⟨stab_eq, stab_eq, stab_firm (numG_firm _ _), stab_eq, stab_eq, stab_firm (numG_firm _ _), stab_firm (vecN_firm _ _ _), stab_box (vecN_firm _ _ _) rfl, trivial⟩ ?steps ?fin
  case steps =>
    refine ⟨?_, ?_, ?_, ?_, ?_, ?_, ?_, ?_, trivial⟩
    · intro vs g w2 hI hF hR K hK
      simp only [Facts, fill, Act.put, z1, z2, z3, z4, z5, Nat.reduceAdd] at hF hR hK ⊢
      go_simp
      exact hK _ _ _ hI (Step.refl hI) rfl
    · intro vs g w2 hI hF hR K hK
      simp only [Facts, fill, Act.put, z1, z2, z3, z4, z5, Nat.reduceAdd] at hF hR hK ⊢
      obtain ⟨r0, -⟩ := hR
      generalize vs 0 = x0 at *
      subst r0
      have k0 := hI.cell C0_W_0.out (by first | exact HO0)
      go_simp
      exact hK _ _ _ hI (Step.refl hI) rfl
    · intro vs g w2 hI hF hR K hK
      simp only [Facts, fill, Act.put, z1, z2, z3, z4, z5, Nat.reduceAdd] at hF hR hK ⊢
      obtain ⟨r1, -⟩ := hR
      generalize vs 1 = x1 at *
      subst r1
      go_simp
      refine (gValueE hI ((limR_firm _ _) _ _ _ _ _ Fu_W_01.out hI.keeps) (by decide) (by first | exact EX.out | exact EY.out)).mono ?_
      rintro e w3 ⟨v3, rfl, hv, hb⟩
      exact hK _ _ _ (hI.call hb) (Step.call hI hb) hv
    · intro vs g w2 hI hF hR K hK
      simp only [Facts, fill, Act.put, z1, z2, z3, z4, z5, Nat.reduceAdd] at hF hR hK ⊢
      go_simp
      exact hK _ _ _ hI (Step.refl hI) rfl
    · intro vs g w2 hI hF hR K hK
      simp only [Facts, fill, Act.put, z1, z2, z3, z4, z5, Nat.reduceAdd] at hF hR hK ⊢
      obtain ⟨r3, -⟩ := hR
      generalize vs 3 = x3 at *
      subst r3
      have k0 := hI.cell C0_W_1.out (by first | exact HO0)
      go_simp
      exact hK _ _ _ hI (Step.refl hI) rfl
    · intro vs g w2 hI hF hR K hK
      simp only [Facts, fill, Act.put, z1, z2, z3, z4, z5, Nat.reduceAdd] at hF hR hK ⊢
      obtain ⟨r4, -⟩ := hR
      generalize vs 4 = x4 at *
      subst r4
      go_simp
      refine (gValueE hI ((limR_firm _ _) _ _ _ _ _ Fu_W_11.out hI.keeps) (by decide) (by first | exact EX.out | exact EY.out)).mono ?_
      rintro e w3 ⟨v3, rfl, hv, hb⟩
      exact hK _ _ _ (hI.call hb) (Step.call hI hb) hv
    · intro vs g w2 hI hF hR K hK
      simp only [Facts, fill, Act.put, z1, z2, z3, z4, z5, Nat.reduceAdd] at hF hR hK ⊢
      obtain ⟨r2, r5, -⟩ := hR
      generalize vs 2 = x2, vs 5 = x5 at *
      have q0 := r2
      have q1 := r5
      obtain ⟨s0, A0, n0, c0, rfl, -⟩ := numG_open r2
      obtain ⟨s1, A1, n1, c1, rfl, -⟩ := numG_open r5
      go_simp
      exact hK _ _ _ hI (Step.refl hI) (vecN_mk q0 q1)
    · intro vs g w2 hI hF hR K hK
      simp only [Facts, fill, Act.put, z1, z2, z3, z4, z5, Nat.reduceAdd] at hF hR hK ⊢
      obtain ⟨r6, -⟩ := hR
      generalize vs 6 = x6 at *
      have hk := hI.keep0 1000 _ (lift_at g0 (w.heap.size + 1))
      have hbx := hI.box0 1000 _ 4 (lift_at g0 (w.heap.size + 1)) HBX.out
      have qx := r6
      obtain ⟨s7, A7, n7, c7, t7, B7, m7, d7, rfl⟩ := vecN_open r6
      obtain ⟨⟨u0, k0⟩, f0⟩ := hbx 0 (by decide)
      obtain ⟨⟨u1, k1⟩, f1⟩ := hbx 1 (by decide)
      obtain ⟨⟨u2, k2⟩, f2⟩ := hbx 2 (by decide)
      obtain ⟨⟨u3, k3⟩, f3⟩ := hbx 3 (by decide)
      go_simp
      have ht := (((((Touch.refl w2 (w.heap.size + 1)).set 0 (.int .i64 s7)).set 1 (.slice A7 n7 c7)).set 2 (.int .i64 t7)).set 3 (.slice B7 m7 d7))
      exact hK undef _ _ (hI.store (by decide) hk ht) (Step.store hI rfl hk ht) ⟨(w.heap.size + 1), .agg #[.int .i64 s7, .slice A7 n7 c7, .int .i64 t7, .slice B7 m7 d7], hk, by rw [ht.size]; exact hI.lt _ _ hk, cells4 k0 k1 k2 k3 (.int .i64 s7) (.slice A7 n7 c7) (.int .i64 t7) (.slice B7 m7 d7), ((vecN_firm _ _ _) _ _ _ _ _ qx (ht.keeps hk))⟩
  case fin =>
    intro vs g wR1 hI hR
    have r7 := hR 7 (by decide)
    simp only [fill, Act.put, z1, z2, z3, z4, z5] at r7 ⊢
    clear hR
    generalize vs 7 = x7 at *
    have C0_R1_0 := Lib.hid (hI.cell C0_W_0.out (by first | exact HO0))
    have C0_R1_1 := Lib.hid (hI.cell C0_W_1.out (by first | exact HO0))
    have Fu_R1_01 := Lib.hid ((limR_firm _ _) _ _ _ _ _ Fu_W_01.out hI.carry)
    have Fu_R1_11 := Lib.hid ((limR_firm _ _) _ _ _ _ _ Fu_W_11.out hI.carry)
    have hkR12 := hI.keep0 1000 _ (lift_at g0 (w.heap.size + 1))
    obtain ⟨qR12, uR12, hqR12, -, hcR12, hrR12⟩ := r7
    rw [hkR12] at hqR12
    injection hqR12 with hqR12
    subst hqR12
    have qfR12 := hrR12
    obtain ⟨svR12, AvR12, nvR12, cvR12, tvR12, BvR12, mvR12, dvR12, rfl⟩ := vecN_open hrR12
    have FR12_R1_0 := Lib.hid ((vecN_firm _ _ _) _ _ _ _ _ qfR12 hI.back)
    clear qfR12
    have FR12_R1_1 := Lib.hid (vecN_x FR12_R1_0.out)
    have FR12_R1_3 := Lib.hid (vecN_y FR12_R1_0.out)
    have CR12_R1_0 := Lib.hid (hcR12 0 _ rfl)
    have CR12_R1_1 := Lib.hid (hcR12 1 _ rfl)
    have CR12_R1_2 := Lib.hid (hcR12 2 _ rfl)
    have CR12_R1_3 := Lib.hid (hcR12 3 _ rfl)
    clear hcR12 hkR12
    have hBR1 := hI.below
    have HCR1 := hI.next HOK
    clear hI
    go_wp2
    exact bodyPost_ret (v := .agg #[.int .i64 svR12, .slice AvR12 nvR12 cvR12, .int .i64 tvR12, .slice BvR12 mvR12 dvR12]) (by simp [results, Tryd.results22, go_sem, CR12_R1_0.out, CR12_R1_1.out, CR12_R1_2.out, CR12_R1_3.out]) rfl ⟨_, rfl, (vecN_firm _ _ _) _ _ _ _ _ FR12_R1_0.out keeps_out, hBR1⟩
end Go.Proofs.YtdcckjpeibnkbaaDoor
