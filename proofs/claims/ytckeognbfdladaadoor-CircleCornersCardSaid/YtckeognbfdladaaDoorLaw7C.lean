/-
  Law CircleCorners. (Written by law5.py.)
-/
import Derived.Test.YtckeognbfdladaaDoorLaw7a
import Derived.BigQuiet
namespace Go.Proofs.YtckeognbfdladaaDoor
open Go.RowKit
set_option maxRecDepth 100000
set_option linter.unusedVariables false
set_option linter.unusedSimpArgs false

theorem quarter {x : Int} (h : S x) : -2305843009213693952 ≤ x.tdiv 4 ∧ x.tdiv 4 ≤ 2305843009213693951 := by
  unfold S at h
  rcases Int.le_total 0 x with h0 | h0
  · rw [Int.tdiv_eq_ediv_of_nonneg h0]; omega
  · have e : x.tdiv 4 = -((-x) / 4) := by rw [← Int.tdiv_eq_ediv_of_nonneg (by omega : 0 ≤ -x), Int.neg_tdiv, Int.neg_neg]
    omega
theorem wrap_in {z : Int} (h0 : -4611686018427387904 ≤ z) (h1 : z ≤ 4611686018427387904) : IntKind.i64.wrap z = z := by simp [IntKind.wrap, IntKind.bits, IntKind.signed]; split <;> omega
set_option maxHeartbeats 8000000 in
theorem law7C_A (x y m n : Int) (w : World) (hw : Wts w) (sx : S x) (sy : S y) (hm : 0 ≤ m ∧ m < 4294967296) (hn : 0 ≤ n ∧ n < 4294967296) (hc : m < 2) :
    Calls Tryd.prog 7 #[.int .i64 x, .int .i64 y, .agg #[.int .u32 m, .int .u32 n]] w fun e w' => e = .returned (.bool true) ∧ Below w.heap.size w w' := by
  obtain ⟨hm0, hm1⟩ := hm
  obtain ⟨hn0, hn1⟩ := hn
  obtain ⟨X, hX⟩ : ∃ X, X = x.tdiv 4 := ⟨_, rfl⟩
  obtain ⟨Y, hY⟩ : ∃ Y, Y = y.tdiv 4 := ⟨_, rfl⟩
  have bX : -2305843009213693952 ≤ X ∧ X ≤ 2305843009213693951 := by rw [hX]; exact quarter sx
  have bY : -2305843009213693952 ≤ Y ∧ Y ≤ 2305843009213693951 := by rw [hY]; exact quarter sy
  obtain ⟨A, hA⟩ : ∃ A, A = X + m := ⟨_, rfl⟩
  obtain ⟨U, hU⟩ : ∃ U, U = X + (m + 1) := ⟨_, rfl⟩
  obtain ⟨B, hB⟩ : ∃ B, B = Y + n := ⟨_, rfl⟩
  obtain ⟨V, hV⟩ : ∃ V, V = Y + (n + 1) := ⟨_, rfl⟩
  obtain ⟨U1, hU1⟩ : ∃ U1, U1 = X + (m + 1) + 1 := ⟨_, rfl⟩
  have e1 : IntKind.i64.wrap (x.tdiv 4) = X := by rw [← hX]; exact wrap_in (by omega) (by omega)
  have e2 : IntKind.i64.wrap (y.tdiv 4) = Y := by rw [← hY]; exact wrap_in (by omega) (by omega)
  have e3 : IntKind.i64.wrap (X + m) = A := by rw [hA]; exact wrap_in (by omega) (by omega)
  have e4 : IntKind.i64.wrap (Y + n) = B := by rw [hB]; exact wrap_in (by omega) (by omega)
  have e5 : IntKind.i64.wrap (A + 1) = U := by rw [wrap_in (by omega) (by omega)]; omega
  have e6 : IntKind.i64.wrap (B + 1) = V := by rw [wrap_in (by omega) (by omega)]; omega
  have e7 : IntKind.i64.wrap (U + 1) = U1 := by rw [wrap_in (by omega) (by omega)]; omega
  have sX : S X := by unfold S; omega
  have sY : S Y := by unfold S; omega
  have sU : S U := by unfold S; omega
  have sV : S V := by unfold S; omega
  have sU1 : S U1 := by unfold S; omega
  have sM : S (X + m / 2) := by unfold S; omega
  have sN : S (Y + n / 2) := by unfold S; omega
  have HU := Lib.hid hU
  have HV := Lib.hid hV
  have HU1 := Lib.hid hU1
  have HC := Lib.hid (show m < 2 ∧ 0 ≤ m ∧ 0 ≤ n by omega)
  clear hX hY hA hU hB hV hU1 hc
  go_enter Tryd.func7, Tryd.ntmps7
  go_upto_region 1 with (fail)
  go_quiet (fail)
  go_upto_region 6 with (fail)
  obtain ⟨W, hW⟩ : ∃ W, W = ((((((((w.alloc (.cells #[.int .u32 m, .int .u32 n] 42)).drewN nq).alloc (.cells #[.int .i64 X, .int .i64 Y] 23)).alloc (.cells #[.int .i64 U, .int .i64 Y] 23)).alloc (.cells #[.int .i64 U, .int .i64 V] 23)).alloc (.cells #[.int .i64 X, .int .i64 V] 23)).alloc (.cells #[.int .i64 (X + m / 2), .int .i64 (Y + n / 2)] 23)).alloc (.cells #[.int .i64 U1, .int .i64 V] 23)) := ⟨_, rfl⟩
  have hb0 : Below w.heap.size w W := by rw [hW]; exact (((((((below_drewN' ((Below.refl _ _).alloc (Nat.le_refl _) _) nq).alloc (by simp) _).alloc (by simp; omega) _).alloc (by simp; omega) _).alloc (by simp; omega) _).alloc (by simp; omega) _).alloc (by simp; omega) _)
  have C11_W_0 := Lib.hid (show W.cell? ⟨w.heap.size + 1, 0, none⟩ = some (.int .i64 X) by rw [hW]; simp [go_sem])
  have C11_W_1 := Lib.hid (show W.cell? ⟨w.heap.size + 1, 1, none⟩ = some (.int .i64 Y) by rw [hW]; simp [go_sem])
  have C12_W_0 := Lib.hid (show W.cell? ⟨w.heap.size + 1 + 1, 0, none⟩ = some (.int .i64 U) by rw [hW]; simp [go_sem])
  have C12_W_1 := Lib.hid (show W.cell? ⟨w.heap.size + 1 + 1, 1, none⟩ = some (.int .i64 Y) by rw [hW]; simp [go_sem])
  have C13_W_0 := Lib.hid (show W.cell? ⟨w.heap.size + 1 + 1 + 1, 0, none⟩ = some (.int .i64 U) by rw [hW]; simp [go_sem])
  have C13_W_1 := Lib.hid (show W.cell? ⟨w.heap.size + 1 + 1 + 1, 1, none⟩ = some (.int .i64 V) by rw [hW]; simp [go_sem])
  have C14_W_0 := Lib.hid (show W.cell? ⟨w.heap.size + 1 + 1 + 1 + 1, 0, none⟩ = some (.int .i64 X) by rw [hW]; simp [go_sem])
  have C14_W_1 := Lib.hid (show W.cell? ⟨w.heap.size + 1 + 1 + 1 + 1, 1, none⟩ = some (.int .i64 V) by rw [hW]; simp [go_sem])
  have C15_W_0 := Lib.hid (show W.cell? ⟨w.heap.size + 1 + 1 + 1 + 1 + 1, 0, none⟩ = some (.int .i64 (X + m / 2)) by rw [hW]; simp [go_sem])
  have C15_W_1 := Lib.hid (show W.cell? ⟨w.heap.size + 1 + 1 + 1 + 1 + 1, 1, none⟩ = some (.int .i64 (Y + n / 2)) by rw [hW]; simp [go_sem])
  have C16_W_0 := Lib.hid (show W.cell? ⟨w.heap.size + 1 + 1 + 1 + 1 + 1 + 1, 0, none⟩ = some (.int .i64 U1) by rw [hW]; simp [go_sem])
  have C16_W_1 := Lib.hid (show W.cell? ⟨w.heap.size + 1 + 1 + 1 + 1 + 1 + 1, 1, none⟩ = some (.int .i64 V) by rw [hW]; simp [go_sem])
  have HW := Lib.hid hW
  clear hW e1 e2 e3 e4 e5 e6 e7
  rw [← HW.out]
  refine box_plan0 (c := ⟨w, W, (fun _ => none)⟩) (Ctx.ok_none hb0) [[], [(66, 0)], [(67, 1)], [(67, 1)], [(67, 1)], [(67, 1)], [(67, 1), (68, 2), (69, 3), (70, 4), (71, 5)], [(67, 1), (72, 6)], [(67, 1), (73, 7)], [(74, 8)], [(75, 9)], [(75, 9)], [(75, 9)], [(75, 9)], [(75, 9), (76, 10), (77, 11), (78, 12), (79, 13)], [(75, 9), (80, 14)], [(75, 9), (81, 15)], [(82, 16)], [(83, 17)], [(83, 17), (84, 18)], [(83, 17), (85, 19)], [(86, 20)], [(86, 20), (87, 21)], [(83, 17), (86, 20), (88, 22)], [(83, 17), (89, 23)], [(90, 24)], [(90, 24)], [(90, 24)], [(90, 24)], [(90, 24), (91, 25), (92, 26), (93, 27), (94, 28)], [(90, 24), (95, 29)], [(83, 17), (90, 24), (96, 30)], [(83, 17), (97, 31)], [(98, 32)]] [(66, 0), (67, 1), (68, 2), (69, 3), (70, 4), (71, 5), (72, 6), (73, 7), (74, 8), (75, 9), (76, 10), (77, 11), (78, 12), (79, 13), (80, 14), (81, 15), (82, 16), (83, 17), (84, 18), (85, 19), (86, 20), (87, 21), (88, 22), (89, 23), (90, 24), (91, 25), (92, 26), (93, 27), (94, 28), (95, 29), (96, 30), (97, 31), (98, 32), (6, 33)] [
      (fun v _ _ => v = .bool true),
      (fun v _ _ => v = .bool true),
      (fun v _ _ => v = .agg #[.int .i64 X, .int .i64 Y]),
      (fun v _ _ => v = .agg #[.int .i64 U, .int .i64 Y]),
      (fun v _ _ => v = .agg #[.int .i64 U, .int .i64 V]),
      (fun v _ _ => v = .agg #[.int .i64 X, .int .i64 V]),
      SignR ((lc X Y U Y U V X V) * (det X Y U Y U V)),
      (fun v _ _ => v = .bool true),
      (fun v _ _ => v = .bool true),
      (fun v _ _ => v = .bool true),
      (fun v _ _ => v = .agg #[.int .i64 X, .int .i64 Y]),
      (fun v _ _ => v = .agg #[.int .i64 U, .int .i64 Y]),
      (fun v _ _ => v = .agg #[.int .i64 U, .int .i64 V]),
      (fun v _ _ => v = .agg #[.int .i64 U1, .int .i64 V]),
      SignR ((lc X Y U Y U V U1 V) * (det X Y U Y U V)),
      (fun v _ _ => v = .bool true),
      (fun v _ _ => v = .bool true),
      (fun v _ _ => v = .bool true),
      (fun v _ _ => v = .int .u32 m),
      (fun v _ _ => v = .bool true),
      (fun v _ _ => v = .bool true),
      (fun v _ _ => v = undef),
      (fun v _ _ => v = undef),
      (fun v _ _ => v = .bool true),
      (fun v _ _ => v = .bool true),
      (fun v _ _ => v = undef),
      (fun v _ _ => v = undef),
      (fun v _ _ => v = undef),
      (fun v _ _ => v = undef),
      (fun v _ _ => v = undef),
      (fun v _ _ => v = undef),
      (fun v _ _ => v = .bool true),
      (fun v _ _ => v = .bool true),
      (fun v _ _ => v = .bool true)
    ] (fun _ => none) (by kernel_rfl) (by kernel_rfl) ⟨stab_eq, stab_eq, stab_eq, stab_eq, stab_eq, stab_eq, stab_firm (signR_firm _), stab_eq, stab_eq, stab_eq, stab_eq, stab_eq, stab_eq, stab_eq, stab_firm (signR_firm _), stab_eq, stab_eq, stab_eq, stab_eq, stab_eq, stab_eq, stab_eq, stab_eq, stab_eq, stab_eq, stab_eq, stab_eq, stab_eq, stab_eq, stab_eq, stab_eq, stab_eq, stab_eq, stab_eq, trivial⟩ ?steps ?fin
  case steps =>
    refine ⟨?_, ?_, ?_, ?_, ?_, ?_, ?_, ?_, ?_, ?_, ?_, ?_, ?_, ?_, ?_, ?_, ?_, ?_, ?_, ?_, ?_, ?_, ?_, ?_, ?_, ?_, ?_, ?_, ?_, ?_, ?_, ?_, ?_, ?_, trivial⟩
    · intro vs g w2 hI hF hR K hK
      simp only [Facts, fill, Act.put, z1, z2, z3, z4, z5, Nat.reduceAdd] at hF hR hK ⊢
      go_simp
      refine (gAlive7 hI hw).mono ?_
      rintro e w3 ⟨v3, rfl, hv, hb⟩
      exact hK _ _ _ (hI.call hb) (Step.call hI hb) hv
    · intro vs g w2 hI hF hR K hK
      simp only [Facts, fill, Act.put, z1, z2, z3, z4, z5, Nat.reduceAdd] at hF hR hK ⊢
      obtain ⟨r0, -⟩ := hR
      generalize vs 0 = x0 at *
      subst r0
      go_simp
      exact hK _ _ _ hI (Step.refl hI) rfl
    · intro vs g w2 hI hF hR K hK
      simp only [Facts, fill, Act.put, z1, z2, z3, z4, z5, Nat.reduceAdd] at hF hR hK ⊢
      obtain ⟨r1, -⟩ := hR
      generalize vs 1 = x1 at *
      subst r1
      have k0 := hI.cell C11_W_0.out (fun _ h => by cases h)
      have k1 := hI.cell C11_W_1.out (fun _ h => by cases h)
      go_simp
      exact hK _ _ _ hI (Step.refl hI) rfl
    · intro vs g w2 hI hF hR K hK
      simp only [Facts, fill, Act.put, z1, z2, z3, z4, z5, Nat.reduceAdd] at hF hR hK ⊢
      obtain ⟨r1, -⟩ := hR
      generalize vs 1 = x1 at *
      subst r1
      have k0 := hI.cell C12_W_0.out (fun _ h => by cases h)
      have k1 := hI.cell C12_W_1.out (fun _ h => by cases h)
      go_simp
      exact hK _ _ _ hI (Step.refl hI) rfl
    · intro vs g w2 hI hF hR K hK
      simp only [Facts, fill, Act.put, z1, z2, z3, z4, z5, Nat.reduceAdd] at hF hR hK ⊢
      obtain ⟨r1, -⟩ := hR
      generalize vs 1 = x1 at *
      subst r1
      have k0 := hI.cell C13_W_0.out (fun _ h => by cases h)
      have k1 := hI.cell C13_W_1.out (fun _ h => by cases h)
      go_simp
      exact hK _ _ _ hI (Step.refl hI) rfl
    · intro vs g w2 hI hF hR K hK
      simp only [Facts, fill, Act.put, z1, z2, z3, z4, z5, Nat.reduceAdd] at hF hR hK ⊢
      obtain ⟨r1, -⟩ := hR
      generalize vs 1 = x1 at *
      subst r1
      have k0 := hI.cell C14_W_0.out (fun _ h => by cases h)
      have k1 := hI.cell C14_W_1.out (fun _ h => by cases h)
      go_simp
      exact hK _ _ _ hI (Step.refl hI) rfl
    · intro vs g w2 hI hF hR K hK
      simp only [Facts, fill, Act.put, z1, z2, z3, z4, z5, Nat.reduceAdd] at hF hR hK ⊢
      obtain ⟨r1, r2, r3, r4, r5, -⟩ := hR
      generalize vs 1 = x1, vs 2 = x2, vs 3 = x3, vs 4 = x4, vs 5 = x5 at *
      subst r1 r2 r3 r4 r5
      go_simp
      refine (gCircleSide hI hw (by first | assumption | (unfold S; decide)) (by first | assumption | (unfold S; decide)) (by first | assumption | (unfold S; decide)) (by first | assumption | (unfold S; decide)) (by first | assumption | (unfold S; decide)) (by first | assumption | (unfold S; decide)) (by first | assumption | (unfold S; decide)) (by first | assumption | (unfold S; decide))).mono ?_
      rintro e w3 ⟨v3, rfl, hv, hb⟩
      exact hK _ _ _ (hI.call hb) (Step.call hI hb) hv
    · intro vs g w2 hI hF hR K hK
      simp only [Facts, fill, Act.put, z1, z2, z3, z4, z5, Nat.reduceAdd] at hF hR hK ⊢
      obtain ⟨r1, r6, -⟩ := hR
      generalize vs 1 = x1, vs 6 = x6 at *
      subst r1
      obtain ⟨sq, rfl, hsq⟩ := r6
      have hz := sign_is (x := lc X Y U Y U V X V * (det X Y U Y U V)) (k := 0) ⟨sq, rfl, hsq⟩ (by rw [HU.out, HV.out, corner_on]; rfl)
      clear hsq
      go_simp
      exact hK _ _ _ hI (Step.refl hI) rfl
    · intro vs g w2 hI hF hR K hK
      simp only [Facts, fill, Act.put, z1, z2, z3, z4, z5, Nat.reduceAdd] at hF hR hK ⊢
      obtain ⟨r1, r7, -⟩ := hR
      generalize vs 1 = x1, vs 7 = x7 at *
      subst r1 r7
      go_simp
      exact hK _ _ _ hI (Step.refl hI) rfl
    · intro vs g w2 hI hF hR K hK
      simp only [Facts, fill, Act.put, z1, z2, z3, z4, z5, Nat.reduceAdd] at hF hR hK ⊢
      obtain ⟨r8, -⟩ := hR
      generalize vs 8 = x8 at *
      subst r8
      go_simp
      exact hK _ _ _ hI (Step.refl hI) rfl
    · intro vs g w2 hI hF hR K hK
      simp only [Facts, fill, Act.put, z1, z2, z3, z4, z5, Nat.reduceAdd] at hF hR hK ⊢
      obtain ⟨r9, -⟩ := hR
      generalize vs 9 = x9 at *
      subst r9
      have k0 := hI.cell C11_W_0.out (fun _ h => by cases h)
      have k1 := hI.cell C11_W_1.out (fun _ h => by cases h)
      go_simp
      exact hK _ _ _ hI (Step.refl hI) rfl
    · intro vs g w2 hI hF hR K hK
      simp only [Facts, fill, Act.put, z1, z2, z3, z4, z5, Nat.reduceAdd] at hF hR hK ⊢
      obtain ⟨r9, -⟩ := hR
      generalize vs 9 = x9 at *
      subst r9
      have k0 := hI.cell C12_W_0.out (fun _ h => by cases h)
      have k1 := hI.cell C12_W_1.out (fun _ h => by cases h)
      go_simp
      exact hK _ _ _ hI (Step.refl hI) rfl
    · intro vs g w2 hI hF hR K hK
      simp only [Facts, fill, Act.put, z1, z2, z3, z4, z5, Nat.reduceAdd] at hF hR hK ⊢
      obtain ⟨r9, -⟩ := hR
      generalize vs 9 = x9 at *
      subst r9
      have k0 := hI.cell C13_W_0.out (fun _ h => by cases h)
      have k1 := hI.cell C13_W_1.out (fun _ h => by cases h)
      go_simp
      exact hK _ _ _ hI (Step.refl hI) rfl
    · intro vs g w2 hI hF hR K hK
      simp only [Facts, fill, Act.put, z1, z2, z3, z4, z5, Nat.reduceAdd] at hF hR hK ⊢
      obtain ⟨r9, -⟩ := hR
      generalize vs 9 = x9 at *
      subst r9
      have k0 := hI.cell C16_W_0.out (fun _ h => by cases h)
      have k1 := hI.cell C16_W_1.out (fun _ h => by cases h)
      go_simp
      exact hK _ _ _ hI (Step.refl hI) rfl
    · intro vs g w2 hI hF hR K hK
      simp only [Facts, fill, Act.put, z1, z2, z3, z4, z5, Nat.reduceAdd] at hF hR hK ⊢
      obtain ⟨r9, r10, r11, r12, r13, -⟩ := hR
      generalize vs 9 = x9, vs 10 = x10, vs 11 = x11, vs 12 = x12, vs 13 = x13 at *
      subst r9 r10 r11 r12 r13
      go_simp
      refine (gCircleSide hI hw (by first | assumption | (unfold S; decide)) (by first | assumption | (unfold S; decide)) (by first | assumption | (unfold S; decide)) (by first | assumption | (unfold S; decide)) (by first | assumption | (unfold S; decide)) (by first | assumption | (unfold S; decide)) (by first | assumption | (unfold S; decide)) (by first | assumption | (unfold S; decide))).mono ?_
      rintro e w3 ⟨v3, rfl, hv, hb⟩
      exact hK _ _ _ (hI.call hb) (Step.call hI hb) hv
    · intro vs g w2 hI hF hR K hK
      simp only [Facts, fill, Act.put, z1, z2, z3, z4, z5, Nat.reduceAdd] at hF hR hK ⊢
      obtain ⟨r9, r14, -⟩ := hR
      generalize vs 9 = x9, vs 14 = x14 at *
      subst r9
      obtain ⟨sq, rfl, hsq⟩ := r14
      have hz := sign_is (x := lc X Y U Y U V U1 V * (det X Y U Y U V)) (k := (-1)) ⟨sq, rfl, hsq⟩ (by have := HC.out; rw [HU1.out, HU.out, HV.out]; exact corner_out (by omega) (by omega))
      clear hsq
      go_simp
      exact hK _ _ _ hI (Step.refl hI) rfl
    · intro vs g w2 hI hF hR K hK
      simp only [Facts, fill, Act.put, z1, z2, z3, z4, z5, Nat.reduceAdd] at hF hR hK ⊢
      obtain ⟨r9, r15, -⟩ := hR
      generalize vs 9 = x9, vs 15 = x15 at *
      subst r9 r15
      go_simp
      exact hK _ _ _ hI (Step.refl hI) rfl
    · intro vs g w2 hI hF hR K hK
      simp only [Facts, fill, Act.put, z1, z2, z3, z4, z5, Nat.reduceAdd] at hF hR hK ⊢
      obtain ⟨r16, -⟩ := hR
      generalize vs 16 = x16 at *
      subst r16
      go_simp
      exact hK _ _ _ hI (Step.refl hI) rfl
    · intro vs g w2 hI hF hR K hK
      simp only [Facts, fill, Act.put, z1, z2, z3, z4, z5, Nat.reduceAdd] at hF hR hK ⊢
      obtain ⟨r17, -⟩ := hR
      generalize vs 17 = x17 at *
      subst r17
      go_simp
      exact hK _ _ _ hI (Step.refl hI) rfl
    · intro vs g w2 hI hF hR K hK
      simp only [Facts, fill, Act.put, z1, z2, z3, z4, z5, Nat.reduceAdd] at hF hR hK ⊢
      obtain ⟨r17, r18, -⟩ := hR
      generalize vs 17 = x17, vs 18 = x18 at *
      subst r17 r18
      have hq : decide (m < 2) = true := by have := HC.out; rw [decide_eq_true_iff]; omega
      go_simp
      exact hK _ _ _ hI (Step.refl hI) rfl
    · intro vs g w2 hI hF hR K hK
      simp only [Facts, fill, Act.put, z1, z2, z3, z4, z5, Nat.reduceAdd] at hF hR hK ⊢
      obtain ⟨r17, r19, -⟩ := hR
      generalize vs 17 = x17, vs 19 = x19 at *
      subst r17 r19
      go_simp
      exact hK _ _ _ hI (Step.refl hI) rfl
    · intro vs g w2 hI hF hR K hK
      simp only [Facts, fill, Act.put, z1, z2, z3, z4, z5, Nat.reduceAdd] at hF hR hK ⊢
      obtain ⟨r20, -⟩ := hR
      generalize vs 20 = x20 at *
      subst r20
      go_simp
      exact hK _ _ _ hI (Step.refl hI) rfl
    · intro vs g w2 hI hF hR K hK
      simp only [Facts, fill, Act.put, z1, z2, z3, z4, z5, Nat.reduceAdd] at hF hR hK ⊢
      obtain ⟨r20, r21, -⟩ := hR
      generalize vs 20 = x20, vs 21 = x21 at *
      subst r20 r21
      go_simp
      exact hK _ _ _ hI (Step.refl hI) rfl
    · intro vs g w2 hI hF hR K hK
      simp only [Facts, fill, Act.put, z1, z2, z3, z4, z5, Nat.reduceAdd] at hF hR hK ⊢
      obtain ⟨r17, r20, r22, -⟩ := hR
      generalize vs 17 = x17, vs 20 = x20, vs 22 = x22 at *
      subst r17 r20 r22
      go_simp
      exact hK _ _ _ hI (Step.refl hI) rfl
    · intro vs g w2 hI hF hR K hK
      simp only [Facts, fill, Act.put, z1, z2, z3, z4, z5, Nat.reduceAdd] at hF hR hK ⊢
      obtain ⟨r17, r23, -⟩ := hR
      generalize vs 17 = x17, vs 23 = x23 at *
      subst r17 r23
      go_simp
      exact hK _ _ _ hI (Step.refl hI) rfl
    · intro vs g w2 hI hF hR K hK
      simp only [Facts, fill, Act.put, z1, z2, z3, z4, z5, Nat.reduceAdd] at hF hR hK ⊢
      obtain ⟨r24, -⟩ := hR
      generalize vs 24 = x24 at *
      subst r24
      go_simp
      exact hK _ _ _ hI (Step.refl hI) rfl
    · intro vs g w2 hI hF hR K hK
      simp only [Facts, fill, Act.put, z1, z2, z3, z4, z5, Nat.reduceAdd] at hF hR hK ⊢
      obtain ⟨r24, -⟩ := hR
      generalize vs 24 = x24 at *
      subst r24
      go_simp
      exact hK _ _ _ hI (Step.refl hI) rfl
    · intro vs g w2 hI hF hR K hK
      simp only [Facts, fill, Act.put, z1, z2, z3, z4, z5, Nat.reduceAdd] at hF hR hK ⊢
      obtain ⟨r24, -⟩ := hR
      generalize vs 24 = x24 at *
      subst r24
      go_simp
      exact hK _ _ _ hI (Step.refl hI) rfl
    · intro vs g w2 hI hF hR K hK
      simp only [Facts, fill, Act.put, z1, z2, z3, z4, z5, Nat.reduceAdd] at hF hR hK ⊢
      obtain ⟨r24, -⟩ := hR
      generalize vs 24 = x24 at *
      subst r24
      go_simp
      exact hK _ _ _ hI (Step.refl hI) rfl
    · intro vs g w2 hI hF hR K hK
      simp only [Facts, fill, Act.put, z1, z2, z3, z4, z5, Nat.reduceAdd] at hF hR hK ⊢
      obtain ⟨r24, r25, r26, r27, r28, -⟩ := hR
      generalize vs 24 = x24, vs 25 = x25, vs 26 = x26, vs 27 = x27, vs 28 = x28 at *
      subst r24 r25 r26 r27 r28
      go_simp
      exact hK _ _ _ hI (Step.refl hI) rfl
    · intro vs g w2 hI hF hR K hK
      simp only [Facts, fill, Act.put, z1, z2, z3, z4, z5, Nat.reduceAdd] at hF hR hK ⊢
      obtain ⟨r24, r29, -⟩ := hR
      generalize vs 24 = x24, vs 29 = x29 at *
      subst r24 r29
      go_simp
      exact hK _ _ _ hI (Step.refl hI) rfl
    · intro vs g w2 hI hF hR K hK
      simp only [Facts, fill, Act.put, z1, z2, z3, z4, z5, Nat.reduceAdd] at hF hR hK ⊢
      obtain ⟨r17, r24, r30, -⟩ := hR
      generalize vs 17 = x17, vs 24 = x24, vs 30 = x30 at *
      subst r17 r24 r30
      go_simp
      exact hK _ _ _ hI (Step.refl hI) rfl
    · intro vs g w2 hI hF hR K hK
      simp only [Facts, fill, Act.put, z1, z2, z3, z4, z5, Nat.reduceAdd] at hF hR hK ⊢
      obtain ⟨r17, r31, -⟩ := hR
      generalize vs 17 = x17, vs 31 = x31 at *
      subst r17 r31
      go_simp
      exact hK _ _ _ hI (Step.refl hI) rfl
    · intro vs g w2 hI hF hR K hK
      simp only [Facts, fill, Act.put, z1, z2, z3, z4, z5, Nat.reduceAdd] at hF hR hK ⊢
      obtain ⟨r32, -⟩ := hR
      generalize vs 32 = x32 at *
      subst r32
      go_simp
      exact hK _ _ _ hI (Step.refl hI) rfl
  case fin =>
    intro vs g wR6 hI hR
    have r33 := hR 33 (by decide)
    simp only [fill, Act.put, z1, z2, z3, z4, z5] at r33 ⊢
    clear hR
    generalize vs 33 = x33 at *
    have C11_R6_0 := Lib.hid (hI.cell C11_W_0.out (fun _ h => by cases h))
    have C11_R6_1 := Lib.hid (hI.cell C11_W_1.out (fun _ h => by cases h))
    have C12_R6_0 := Lib.hid (hI.cell C12_W_0.out (fun _ h => by cases h))
    have C12_R6_1 := Lib.hid (hI.cell C12_W_1.out (fun _ h => by cases h))
    have C13_R6_0 := Lib.hid (hI.cell C13_W_0.out (fun _ h => by cases h))
    have C13_R6_1 := Lib.hid (hI.cell C13_W_1.out (fun _ h => by cases h))
    have C14_R6_0 := Lib.hid (hI.cell C14_W_0.out (fun _ h => by cases h))
    have C14_R6_1 := Lib.hid (hI.cell C14_W_1.out (fun _ h => by cases h))
    have C15_R6_0 := Lib.hid (hI.cell C15_W_0.out (fun _ h => by cases h))
    have C15_R6_1 := Lib.hid (hI.cell C15_W_1.out (fun _ h => by cases h))
    have C16_R6_0 := Lib.hid (hI.cell C16_W_0.out (fun _ h => by cases h))
    have C16_R6_1 := Lib.hid (hI.cell C16_W_1.out (fun _ h => by cases h))
    subst r33
    have hBR6 := hI.below
    have HCR6 := hI.next (Ctx.ok_none hb0)
    clear hI
    go_wp2
    go_ret
    exact ⟨rfl, hBR6⟩
set_option maxHeartbeats 8000000 in
theorem law7C_B (x y m n : Int) (w : World) (hw : Wts w) (sx : S x) (sy : S y) (hm : 0 ≤ m ∧ m < 4294967296) (hn : 0 ≤ n ∧ n < 4294967296) (hc : 2 ≤ m ∧ n < 2) :
    Calls Tryd.prog 7 #[.int .i64 x, .int .i64 y, .agg #[.int .u32 m, .int .u32 n]] w fun e w' => e = .returned (.bool true) ∧ Below w.heap.size w w' := by
  obtain ⟨hm0, hm1⟩ := hm
  obtain ⟨hn0, hn1⟩ := hn
  obtain ⟨X, hX⟩ : ∃ X, X = x.tdiv 4 := ⟨_, rfl⟩
  obtain ⟨Y, hY⟩ : ∃ Y, Y = y.tdiv 4 := ⟨_, rfl⟩
  have bX : -2305843009213693952 ≤ X ∧ X ≤ 2305843009213693951 := by rw [hX]; exact quarter sx
  have bY : -2305843009213693952 ≤ Y ∧ Y ≤ 2305843009213693951 := by rw [hY]; exact quarter sy
  obtain ⟨A, hA⟩ : ∃ A, A = X + m := ⟨_, rfl⟩
  obtain ⟨U, hU⟩ : ∃ U, U = X + (m + 1) := ⟨_, rfl⟩
  obtain ⟨B, hB⟩ : ∃ B, B = Y + n := ⟨_, rfl⟩
  obtain ⟨V, hV⟩ : ∃ V, V = Y + (n + 1) := ⟨_, rfl⟩
  obtain ⟨U1, hU1⟩ : ∃ U1, U1 = X + (m + 1) + 1 := ⟨_, rfl⟩
  have e1 : IntKind.i64.wrap (x.tdiv 4) = X := by rw [← hX]; exact wrap_in (by omega) (by omega)
  have e2 : IntKind.i64.wrap (y.tdiv 4) = Y := by rw [← hY]; exact wrap_in (by omega) (by omega)
  have e3 : IntKind.i64.wrap (X + m) = A := by rw [hA]; exact wrap_in (by omega) (by omega)
  have e4 : IntKind.i64.wrap (Y + n) = B := by rw [hB]; exact wrap_in (by omega) (by omega)
  have e5 : IntKind.i64.wrap (A + 1) = U := by rw [wrap_in (by omega) (by omega)]; omega
  have e6 : IntKind.i64.wrap (B + 1) = V := by rw [wrap_in (by omega) (by omega)]; omega
  have e7 : IntKind.i64.wrap (U + 1) = U1 := by rw [wrap_in (by omega) (by omega)]; omega
  have sX : S X := by unfold S; omega
  have sY : S Y := by unfold S; omega
  have sU : S U := by unfold S; omega
  have sV : S V := by unfold S; omega
  have sU1 : S U1 := by unfold S; omega
  have sM : S (X + m / 2) := by unfold S; omega
  have sN : S (Y + n / 2) := by unfold S; omega
  have HU := Lib.hid hU
  have HV := Lib.hid hV
  have HU1 := Lib.hid hU1
  have HC := Lib.hid (show 2 ≤ m ∧ n < 2 ∧ 0 ≤ m ∧ 0 ≤ n by omega)
  clear hX hY hA hU hB hV hU1 hc
  go_enter Tryd.func7, Tryd.ntmps7
  go_upto_region 1 with (fail)
  go_quiet (fail)
  go_upto_region 6 with (fail)
  obtain ⟨W, hW⟩ : ∃ W, W = ((((((((w.alloc (.cells #[.int .u32 m, .int .u32 n] 42)).drewN nq).alloc (.cells #[.int .i64 X, .int .i64 Y] 23)).alloc (.cells #[.int .i64 U, .int .i64 Y] 23)).alloc (.cells #[.int .i64 U, .int .i64 V] 23)).alloc (.cells #[.int .i64 X, .int .i64 V] 23)).alloc (.cells #[.int .i64 (X + m / 2), .int .i64 (Y + n / 2)] 23)).alloc (.cells #[.int .i64 U1, .int .i64 V] 23)) := ⟨_, rfl⟩
  have hb0 : Below w.heap.size w W := by rw [hW]; exact (((((((below_drewN' ((Below.refl _ _).alloc (Nat.le_refl _) _) nq).alloc (by simp) _).alloc (by simp; omega) _).alloc (by simp; omega) _).alloc (by simp; omega) _).alloc (by simp; omega) _).alloc (by simp; omega) _)
  have C11_W_0 := Lib.hid (show W.cell? ⟨w.heap.size + 1, 0, none⟩ = some (.int .i64 X) by rw [hW]; simp [go_sem])
  have C11_W_1 := Lib.hid (show W.cell? ⟨w.heap.size + 1, 1, none⟩ = some (.int .i64 Y) by rw [hW]; simp [go_sem])
  have C12_W_0 := Lib.hid (show W.cell? ⟨w.heap.size + 1 + 1, 0, none⟩ = some (.int .i64 U) by rw [hW]; simp [go_sem])
  have C12_W_1 := Lib.hid (show W.cell? ⟨w.heap.size + 1 + 1, 1, none⟩ = some (.int .i64 Y) by rw [hW]; simp [go_sem])
  have C13_W_0 := Lib.hid (show W.cell? ⟨w.heap.size + 1 + 1 + 1, 0, none⟩ = some (.int .i64 U) by rw [hW]; simp [go_sem])
  have C13_W_1 := Lib.hid (show W.cell? ⟨w.heap.size + 1 + 1 + 1, 1, none⟩ = some (.int .i64 V) by rw [hW]; simp [go_sem])
  have C14_W_0 := Lib.hid (show W.cell? ⟨w.heap.size + 1 + 1 + 1 + 1, 0, none⟩ = some (.int .i64 X) by rw [hW]; simp [go_sem])
  have C14_W_1 := Lib.hid (show W.cell? ⟨w.heap.size + 1 + 1 + 1 + 1, 1, none⟩ = some (.int .i64 V) by rw [hW]; simp [go_sem])
  have C15_W_0 := Lib.hid (show W.cell? ⟨w.heap.size + 1 + 1 + 1 + 1 + 1, 0, none⟩ = some (.int .i64 (X + m / 2)) by rw [hW]; simp [go_sem])
  have C15_W_1 := Lib.hid (show W.cell? ⟨w.heap.size + 1 + 1 + 1 + 1 + 1, 1, none⟩ = some (.int .i64 (Y + n / 2)) by rw [hW]; simp [go_sem])
  have C16_W_0 := Lib.hid (show W.cell? ⟨w.heap.size + 1 + 1 + 1 + 1 + 1 + 1, 0, none⟩ = some (.int .i64 U1) by rw [hW]; simp [go_sem])
  have C16_W_1 := Lib.hid (show W.cell? ⟨w.heap.size + 1 + 1 + 1 + 1 + 1 + 1, 1, none⟩ = some (.int .i64 V) by rw [hW]; simp [go_sem])
  have HW := Lib.hid hW
  clear hW e1 e2 e3 e4 e5 e6 e7
  rw [← HW.out]
  refine box_plan0 (c := ⟨w, W, (fun _ => none)⟩) (Ctx.ok_none hb0) [[], [(66, 0)], [(67, 1)], [(67, 1)], [(67, 1)], [(67, 1)], [(67, 1), (68, 2), (69, 3), (70, 4), (71, 5)], [(67, 1), (72, 6)], [(67, 1), (73, 7)], [(74, 8)], [(75, 9)], [(75, 9)], [(75, 9)], [(75, 9)], [(75, 9), (76, 10), (77, 11), (78, 12), (79, 13)], [(75, 9), (80, 14)], [(75, 9), (81, 15)], [(82, 16)], [(83, 17)], [(83, 17), (84, 18)], [(83, 17), (85, 19)], [(86, 20)], [(86, 20), (87, 21)], [(83, 17), (86, 20), (88, 22)], [(83, 17), (89, 23)], [(90, 24)], [(90, 24)], [(90, 24)], [(90, 24)], [(90, 24), (91, 25), (92, 26), (93, 27), (94, 28)], [(90, 24), (95, 29)], [(83, 17), (90, 24), (96, 30)], [(83, 17), (97, 31)], [(98, 32)]] [(66, 0), (67, 1), (68, 2), (69, 3), (70, 4), (71, 5), (72, 6), (73, 7), (74, 8), (75, 9), (76, 10), (77, 11), (78, 12), (79, 13), (80, 14), (81, 15), (82, 16), (83, 17), (84, 18), (85, 19), (86, 20), (87, 21), (88, 22), (89, 23), (90, 24), (91, 25), (92, 26), (93, 27), (94, 28), (95, 29), (96, 30), (97, 31), (98, 32), (6, 33)] [
      (fun v _ _ => v = .bool true),
      (fun v _ _ => v = .bool true),
      (fun v _ _ => v = .agg #[.int .i64 X, .int .i64 Y]),
      (fun v _ _ => v = .agg #[.int .i64 U, .int .i64 Y]),
      (fun v _ _ => v = .agg #[.int .i64 U, .int .i64 V]),
      (fun v _ _ => v = .agg #[.int .i64 X, .int .i64 V]),
      SignR ((lc X Y U Y U V X V) * (det X Y U Y U V)),
      (fun v _ _ => v = .bool true),
      (fun v _ _ => v = .bool true),
      (fun v _ _ => v = .bool true),
      (fun v _ _ => v = .agg #[.int .i64 X, .int .i64 Y]),
      (fun v _ _ => v = .agg #[.int .i64 U, .int .i64 Y]),
      (fun v _ _ => v = .agg #[.int .i64 U, .int .i64 V]),
      (fun v _ _ => v = .agg #[.int .i64 U1, .int .i64 V]),
      SignR ((lc X Y U Y U V U1 V) * (det X Y U Y U V)),
      (fun v _ _ => v = .bool true),
      (fun v _ _ => v = .bool true),
      (fun v _ _ => v = .bool true),
      (fun v _ _ => v = .int .u32 m),
      (fun v _ _ => v = .bool false),
      (fun v _ _ => v = .bool false),
      (fun v _ _ => v = .int .u32 n),
      (fun v _ _ => v = .bool true),
      (fun v _ _ => v = .bool true),
      (fun v _ _ => v = .bool true),
      (fun v _ _ => v = undef),
      (fun v _ _ => v = undef),
      (fun v _ _ => v = undef),
      (fun v _ _ => v = undef),
      (fun v _ _ => v = undef),
      (fun v _ _ => v = undef),
      (fun v _ _ => v = .bool true),
      (fun v _ _ => v = .bool true),
      (fun v _ _ => v = .bool true)
    ] (fun _ => none) (by kernel_rfl) (by kernel_rfl) ⟨stab_eq, stab_eq, stab_eq, stab_eq, stab_eq, stab_eq, stab_firm (signR_firm _), stab_eq, stab_eq, stab_eq, stab_eq, stab_eq, stab_eq, stab_eq, stab_firm (signR_firm _), stab_eq, stab_eq, stab_eq, stab_eq, stab_eq, stab_eq, stab_eq, stab_eq, stab_eq, stab_eq, stab_eq, stab_eq, stab_eq, stab_eq, stab_eq, stab_eq, stab_eq, stab_eq, stab_eq, trivial⟩ ?steps ?fin
  case steps =>
    refine ⟨?_, ?_, ?_, ?_, ?_, ?_, ?_, ?_, ?_, ?_, ?_, ?_, ?_, ?_, ?_, ?_, ?_, ?_, ?_, ?_, ?_, ?_, ?_, ?_, ?_, ?_, ?_, ?_, ?_, ?_, ?_, ?_, ?_, ?_, trivial⟩
    · intro vs g w2 hI hF hR K hK
      simp only [Facts, fill, Act.put, z1, z2, z3, z4, z5, Nat.reduceAdd] at hF hR hK ⊢
      go_simp
      refine (gAlive7 hI hw).mono ?_
      rintro e w3 ⟨v3, rfl, hv, hb⟩
      exact hK _ _ _ (hI.call hb) (Step.call hI hb) hv
    · intro vs g w2 hI hF hR K hK
      simp only [Facts, fill, Act.put, z1, z2, z3, z4, z5, Nat.reduceAdd] at hF hR hK ⊢
      obtain ⟨r0, -⟩ := hR
      generalize vs 0 = x0 at *
      subst r0
      go_simp
      exact hK _ _ _ hI (Step.refl hI) rfl
    · intro vs g w2 hI hF hR K hK
      simp only [Facts, fill, Act.put, z1, z2, z3, z4, z5, Nat.reduceAdd] at hF hR hK ⊢
      obtain ⟨r1, -⟩ := hR
      generalize vs 1 = x1 at *
      subst r1
      have k0 := hI.cell C11_W_0.out (fun _ h => by cases h)
      have k1 := hI.cell C11_W_1.out (fun _ h => by cases h)
      go_simp
      exact hK _ _ _ hI (Step.refl hI) rfl
    · intro vs g w2 hI hF hR K hK
      simp only [Facts, fill, Act.put, z1, z2, z3, z4, z5, Nat.reduceAdd] at hF hR hK ⊢
      obtain ⟨r1, -⟩ := hR
      generalize vs 1 = x1 at *
      subst r1
      have k0 := hI.cell C12_W_0.out (fun _ h => by cases h)
      have k1 := hI.cell C12_W_1.out (fun _ h => by cases h)
      go_simp
      exact hK _ _ _ hI (Step.refl hI) rfl
    · intro vs g w2 hI hF hR K hK
      simp only [Facts, fill, Act.put, z1, z2, z3, z4, z5, Nat.reduceAdd] at hF hR hK ⊢
      obtain ⟨r1, -⟩ := hR
      generalize vs 1 = x1 at *
      subst r1
      have k0 := hI.cell C13_W_0.out (fun _ h => by cases h)
      have k1 := hI.cell C13_W_1.out (fun _ h => by cases h)
      go_simp
      exact hK _ _ _ hI (Step.refl hI) rfl
    · intro vs g w2 hI hF hR K hK
      simp only [Facts, fill, Act.put, z1, z2, z3, z4, z5, Nat.reduceAdd] at hF hR hK ⊢
      obtain ⟨r1, -⟩ := hR
      generalize vs 1 = x1 at *
      subst r1
      have k0 := hI.cell C14_W_0.out (fun _ h => by cases h)
      have k1 := hI.cell C14_W_1.out (fun _ h => by cases h)
      go_simp
      exact hK _ _ _ hI (Step.refl hI) rfl
    · intro vs g w2 hI hF hR K hK
      simp only [Facts, fill, Act.put, z1, z2, z3, z4, z5, Nat.reduceAdd] at hF hR hK ⊢
      obtain ⟨r1, r2, r3, r4, r5, -⟩ := hR
      generalize vs 1 = x1, vs 2 = x2, vs 3 = x3, vs 4 = x4, vs 5 = x5 at *
      subst r1 r2 r3 r4 r5
      go_simp
      refine (gCircleSide hI hw (by first | assumption | (unfold S; decide)) (by first | assumption | (unfold S; decide)) (by first | assumption | (unfold S; decide)) (by first | assumption | (unfold S; decide)) (by first | assumption | (unfold S; decide)) (by first | assumption | (unfold S; decide)) (by first | assumption | (unfold S; decide)) (by first | assumption | (unfold S; decide))).mono ?_
      rintro e w3 ⟨v3, rfl, hv, hb⟩
      exact hK _ _ _ (hI.call hb) (Step.call hI hb) hv
    · intro vs g w2 hI hF hR K hK
      simp only [Facts, fill, Act.put, z1, z2, z3, z4, z5, Nat.reduceAdd] at hF hR hK ⊢
      obtain ⟨r1, r6, -⟩ := hR
      generalize vs 1 = x1, vs 6 = x6 at *
      subst r1
      obtain ⟨sq, rfl, hsq⟩ := r6
      have hz := sign_is (x := lc X Y U Y U V X V * (det X Y U Y U V)) (k := 0) ⟨sq, rfl, hsq⟩ (by rw [HU.out, HV.out, corner_on]; rfl)
      clear hsq
      go_simp
      exact hK _ _ _ hI (Step.refl hI) rfl
    · intro vs g w2 hI hF hR K hK
      simp only [Facts, fill, Act.put, z1, z2, z3, z4, z5, Nat.reduceAdd] at hF hR hK ⊢
      obtain ⟨r1, r7, -⟩ := hR
      generalize vs 1 = x1, vs 7 = x7 at *
      subst r1 r7
      go_simp
      exact hK _ _ _ hI (Step.refl hI) rfl
    · intro vs g w2 hI hF hR K hK
      simp only [Facts, fill, Act.put, z1, z2, z3, z4, z5, Nat.reduceAdd] at hF hR hK ⊢
      obtain ⟨r8, -⟩ := hR
      generalize vs 8 = x8 at *
      subst r8
      go_simp
      exact hK _ _ _ hI (Step.refl hI) rfl
    · intro vs g w2 hI hF hR K hK
      simp only [Facts, fill, Act.put, z1, z2, z3, z4, z5, Nat.reduceAdd] at hF hR hK ⊢
      obtain ⟨r9, -⟩ := hR
      generalize vs 9 = x9 at *
      subst r9
      have k0 := hI.cell C11_W_0.out (fun _ h => by cases h)
      have k1 := hI.cell C11_W_1.out (fun _ h => by cases h)
      go_simp
      exact hK _ _ _ hI (Step.refl hI) rfl
    · intro vs g w2 hI hF hR K hK
      simp only [Facts, fill, Act.put, z1, z2, z3, z4, z5, Nat.reduceAdd] at hF hR hK ⊢
      obtain ⟨r9, -⟩ := hR
      generalize vs 9 = x9 at *
      subst r9
      have k0 := hI.cell C12_W_0.out (fun _ h => by cases h)
      have k1 := hI.cell C12_W_1.out (fun _ h => by cases h)
      go_simp
      exact hK _ _ _ hI (Step.refl hI) rfl
    · intro vs g w2 hI hF hR K hK
      simp only [Facts, fill, Act.put, z1, z2, z3, z4, z5, Nat.reduceAdd] at hF hR hK ⊢
      obtain ⟨r9, -⟩ := hR
      generalize vs 9 = x9 at *
      subst r9
      have k0 := hI.cell C13_W_0.out (fun _ h => by cases h)
      have k1 := hI.cell C13_W_1.out (fun _ h => by cases h)
      go_simp
      exact hK _ _ _ hI (Step.refl hI) rfl
    · intro vs g w2 hI hF hR K hK
      simp only [Facts, fill, Act.put, z1, z2, z3, z4, z5, Nat.reduceAdd] at hF hR hK ⊢
      obtain ⟨r9, -⟩ := hR
      generalize vs 9 = x9 at *
      subst r9
      have k0 := hI.cell C16_W_0.out (fun _ h => by cases h)
      have k1 := hI.cell C16_W_1.out (fun _ h => by cases h)
      go_simp
      exact hK _ _ _ hI (Step.refl hI) rfl
    · intro vs g w2 hI hF hR K hK
      simp only [Facts, fill, Act.put, z1, z2, z3, z4, z5, Nat.reduceAdd] at hF hR hK ⊢
      obtain ⟨r9, r10, r11, r12, r13, -⟩ := hR
      generalize vs 9 = x9, vs 10 = x10, vs 11 = x11, vs 12 = x12, vs 13 = x13 at *
      subst r9 r10 r11 r12 r13
      go_simp
      refine (gCircleSide hI hw (by first | assumption | (unfold S; decide)) (by first | assumption | (unfold S; decide)) (by first | assumption | (unfold S; decide)) (by first | assumption | (unfold S; decide)) (by first | assumption | (unfold S; decide)) (by first | assumption | (unfold S; decide)) (by first | assumption | (unfold S; decide)) (by first | assumption | (unfold S; decide))).mono ?_
      rintro e w3 ⟨v3, rfl, hv, hb⟩
      exact hK _ _ _ (hI.call hb) (Step.call hI hb) hv
    · intro vs g w2 hI hF hR K hK
      simp only [Facts, fill, Act.put, z1, z2, z3, z4, z5, Nat.reduceAdd] at hF hR hK ⊢
      obtain ⟨r9, r14, -⟩ := hR
      generalize vs 9 = x9, vs 14 = x14 at *
      subst r9
      obtain ⟨sq, rfl, hsq⟩ := r14
      have hz := sign_is (x := lc X Y U Y U V U1 V * (det X Y U Y U V)) (k := (-1)) ⟨sq, rfl, hsq⟩ (by have := HC.out; rw [HU1.out, HU.out, HV.out]; exact corner_out (by omega) (by omega))
      clear hsq
      go_simp
      exact hK _ _ _ hI (Step.refl hI) rfl
    · intro vs g w2 hI hF hR K hK
      simp only [Facts, fill, Act.put, z1, z2, z3, z4, z5, Nat.reduceAdd] at hF hR hK ⊢
      obtain ⟨r9, r15, -⟩ := hR
      generalize vs 9 = x9, vs 15 = x15 at *
      subst r9 r15
      go_simp
      exact hK _ _ _ hI (Step.refl hI) rfl
    · intro vs g w2 hI hF hR K hK
      simp only [Facts, fill, Act.put, z1, z2, z3, z4, z5, Nat.reduceAdd] at hF hR hK ⊢
      obtain ⟨r16, -⟩ := hR
      generalize vs 16 = x16 at *
      subst r16
      go_simp
      exact hK _ _ _ hI (Step.refl hI) rfl
    · intro vs g w2 hI hF hR K hK
      simp only [Facts, fill, Act.put, z1, z2, z3, z4, z5, Nat.reduceAdd] at hF hR hK ⊢
      obtain ⟨r17, -⟩ := hR
      generalize vs 17 = x17 at *
      subst r17
      go_simp
      exact hK _ _ _ hI (Step.refl hI) rfl
    · intro vs g w2 hI hF hR K hK
      simp only [Facts, fill, Act.put, z1, z2, z3, z4, z5, Nat.reduceAdd] at hF hR hK ⊢
      obtain ⟨r17, r18, -⟩ := hR
      generalize vs 17 = x17, vs 18 = x18 at *
      subst r17 r18
      have hq : decide (m < 2) = false := by have := HC.out; rw [decide_eq_false_iff_not]; omega
      go_simp
      exact hK _ _ _ hI (Step.refl hI) rfl
    · intro vs g w2 hI hF hR K hK
      simp only [Facts, fill, Act.put, z1, z2, z3, z4, z5, Nat.reduceAdd] at hF hR hK ⊢
      obtain ⟨r17, r19, -⟩ := hR
      generalize vs 17 = x17, vs 19 = x19 at *
      subst r17 r19
      go_simp
      exact hK _ _ _ hI (Step.refl hI) rfl
    · intro vs g w2 hI hF hR K hK
      simp only [Facts, fill, Act.put, z1, z2, z3, z4, z5, Nat.reduceAdd] at hF hR hK ⊢
      obtain ⟨r20, -⟩ := hR
      generalize vs 20 = x20 at *
      subst r20
      go_simp
      exact hK _ _ _ hI (Step.refl hI) rfl
    · intro vs g w2 hI hF hR K hK
      simp only [Facts, fill, Act.put, z1, z2, z3, z4, z5, Nat.reduceAdd] at hF hR hK ⊢
      obtain ⟨r20, r21, -⟩ := hR
      generalize vs 20 = x20, vs 21 = x21 at *
      subst r20 r21
      have hq : decide (n < 2) = true := by have := HC.out; rw [decide_eq_true_iff]; omega
      go_simp
      exact hK _ _ _ hI (Step.refl hI) rfl
    · intro vs g w2 hI hF hR K hK
      simp only [Facts, fill, Act.put, z1, z2, z3, z4, z5, Nat.reduceAdd] at hF hR hK ⊢
      obtain ⟨r17, r20, r22, -⟩ := hR
      generalize vs 17 = x17, vs 20 = x20, vs 22 = x22 at *
      subst r17 r20 r22
      go_simp
      exact hK _ _ _ hI (Step.refl hI) rfl
    · intro vs g w2 hI hF hR K hK
      simp only [Facts, fill, Act.put, z1, z2, z3, z4, z5, Nat.reduceAdd] at hF hR hK ⊢
      obtain ⟨r17, r23, -⟩ := hR
      generalize vs 17 = x17, vs 23 = x23 at *
      subst r17 r23
      go_simp
      exact hK _ _ _ hI (Step.refl hI) rfl
    · intro vs g w2 hI hF hR K hK
      simp only [Facts, fill, Act.put, z1, z2, z3, z4, z5, Nat.reduceAdd] at hF hR hK ⊢
      obtain ⟨r24, -⟩ := hR
      generalize vs 24 = x24 at *
      subst r24
      go_simp
      exact hK _ _ _ hI (Step.refl hI) rfl
    · intro vs g w2 hI hF hR K hK
      simp only [Facts, fill, Act.put, z1, z2, z3, z4, z5, Nat.reduceAdd] at hF hR hK ⊢
      obtain ⟨r24, -⟩ := hR
      generalize vs 24 = x24 at *
      subst r24
      go_simp
      exact hK _ _ _ hI (Step.refl hI) rfl
    · intro vs g w2 hI hF hR K hK
      simp only [Facts, fill, Act.put, z1, z2, z3, z4, z5, Nat.reduceAdd] at hF hR hK ⊢
      obtain ⟨r24, -⟩ := hR
      generalize vs 24 = x24 at *
      subst r24
      go_simp
      exact hK _ _ _ hI (Step.refl hI) rfl
    · intro vs g w2 hI hF hR K hK
      simp only [Facts, fill, Act.put, z1, z2, z3, z4, z5, Nat.reduceAdd] at hF hR hK ⊢
      obtain ⟨r24, -⟩ := hR
      generalize vs 24 = x24 at *
      subst r24
      go_simp
      exact hK _ _ _ hI (Step.refl hI) rfl
    · intro vs g w2 hI hF hR K hK
      simp only [Facts, fill, Act.put, z1, z2, z3, z4, z5, Nat.reduceAdd] at hF hR hK ⊢
      obtain ⟨r24, r25, r26, r27, r28, -⟩ := hR
      generalize vs 24 = x24, vs 25 = x25, vs 26 = x26, vs 27 = x27, vs 28 = x28 at *
      subst r24 r25 r26 r27 r28
      go_simp
      exact hK _ _ _ hI (Step.refl hI) rfl
    · intro vs g w2 hI hF hR K hK
      simp only [Facts, fill, Act.put, z1, z2, z3, z4, z5, Nat.reduceAdd] at hF hR hK ⊢
      obtain ⟨r24, r29, -⟩ := hR
      generalize vs 24 = x24, vs 29 = x29 at *
      subst r24 r29
      go_simp
      exact hK _ _ _ hI (Step.refl hI) rfl
    · intro vs g w2 hI hF hR K hK
      simp only [Facts, fill, Act.put, z1, z2, z3, z4, z5, Nat.reduceAdd] at hF hR hK ⊢
      obtain ⟨r17, r24, r30, -⟩ := hR
      generalize vs 17 = x17, vs 24 = x24, vs 30 = x30 at *
      subst r17 r24 r30
      go_simp
      exact hK _ _ _ hI (Step.refl hI) rfl
    · intro vs g w2 hI hF hR K hK
      simp only [Facts, fill, Act.put, z1, z2, z3, z4, z5, Nat.reduceAdd] at hF hR hK ⊢
      obtain ⟨r17, r31, -⟩ := hR
      generalize vs 17 = x17, vs 31 = x31 at *
      subst r17 r31
      go_simp
      exact hK _ _ _ hI (Step.refl hI) rfl
    · intro vs g w2 hI hF hR K hK
      simp only [Facts, fill, Act.put, z1, z2, z3, z4, z5, Nat.reduceAdd] at hF hR hK ⊢
      obtain ⟨r32, -⟩ := hR
      generalize vs 32 = x32 at *
      subst r32
      go_simp
      exact hK _ _ _ hI (Step.refl hI) rfl
  case fin =>
    intro vs g wR6 hI hR
    have r33 := hR 33 (by decide)
    simp only [fill, Act.put, z1, z2, z3, z4, z5] at r33 ⊢
    clear hR
    generalize vs 33 = x33 at *
    have C11_R6_0 := Lib.hid (hI.cell C11_W_0.out (fun _ h => by cases h))
    have C11_R6_1 := Lib.hid (hI.cell C11_W_1.out (fun _ h => by cases h))
    have C12_R6_0 := Lib.hid (hI.cell C12_W_0.out (fun _ h => by cases h))
    have C12_R6_1 := Lib.hid (hI.cell C12_W_1.out (fun _ h => by cases h))
    have C13_R6_0 := Lib.hid (hI.cell C13_W_0.out (fun _ h => by cases h))
    have C13_R6_1 := Lib.hid (hI.cell C13_W_1.out (fun _ h => by cases h))
    have C14_R6_0 := Lib.hid (hI.cell C14_W_0.out (fun _ h => by cases h))
    have C14_R6_1 := Lib.hid (hI.cell C14_W_1.out (fun _ h => by cases h))
    have C15_R6_0 := Lib.hid (hI.cell C15_W_0.out (fun _ h => by cases h))
    have C15_R6_1 := Lib.hid (hI.cell C15_W_1.out (fun _ h => by cases h))
    have C16_R6_0 := Lib.hid (hI.cell C16_W_0.out (fun _ h => by cases h))
    have C16_R6_1 := Lib.hid (hI.cell C16_W_1.out (fun _ h => by cases h))
    subst r33
    have hBR6 := hI.below
    have HCR6 := hI.next (Ctx.ok_none hb0)
    clear hI
    go_wp2
    go_ret
    exact ⟨rfl, hBR6⟩
set_option maxHeartbeats 8000000 in
theorem law7C_D (x y m n : Int) (w : World) (hw : Wts w) (sx : S x) (sy : S y) (hm : 0 ≤ m ∧ m < 4294967296) (hn : 0 ≤ n ∧ n < 4294967296) (hc : 2 ≤ m ∧ 2 ≤ n) :
    Calls Tryd.prog 7 #[.int .i64 x, .int .i64 y, .agg #[.int .u32 m, .int .u32 n]] w fun e w' => e = .returned (.bool true) ∧ Below w.heap.size w w' := by
  obtain ⟨hm0, hm1⟩ := hm
  obtain ⟨hn0, hn1⟩ := hn
  obtain ⟨X, hX⟩ : ∃ X, X = x.tdiv 4 := ⟨_, rfl⟩
  obtain ⟨Y, hY⟩ : ∃ Y, Y = y.tdiv 4 := ⟨_, rfl⟩
  have bX : -2305843009213693952 ≤ X ∧ X ≤ 2305843009213693951 := by rw [hX]; exact quarter sx
  have bY : -2305843009213693952 ≤ Y ∧ Y ≤ 2305843009213693951 := by rw [hY]; exact quarter sy
  obtain ⟨A, hA⟩ : ∃ A, A = X + m := ⟨_, rfl⟩
  obtain ⟨U, hU⟩ : ∃ U, U = X + (m + 1) := ⟨_, rfl⟩
  obtain ⟨B, hB⟩ : ∃ B, B = Y + n := ⟨_, rfl⟩
  obtain ⟨V, hV⟩ : ∃ V, V = Y + (n + 1) := ⟨_, rfl⟩
  obtain ⟨U1, hU1⟩ : ∃ U1, U1 = X + (m + 1) + 1 := ⟨_, rfl⟩
  have e1 : IntKind.i64.wrap (x.tdiv 4) = X := by rw [← hX]; exact wrap_in (by omega) (by omega)
  have e2 : IntKind.i64.wrap (y.tdiv 4) = Y := by rw [← hY]; exact wrap_in (by omega) (by omega)
  have e3 : IntKind.i64.wrap (X + m) = A := by rw [hA]; exact wrap_in (by omega) (by omega)
  have e4 : IntKind.i64.wrap (Y + n) = B := by rw [hB]; exact wrap_in (by omega) (by omega)
  have e5 : IntKind.i64.wrap (A + 1) = U := by rw [wrap_in (by omega) (by omega)]; omega
  have e6 : IntKind.i64.wrap (B + 1) = V := by rw [wrap_in (by omega) (by omega)]; omega
  have e7 : IntKind.i64.wrap (U + 1) = U1 := by rw [wrap_in (by omega) (by omega)]; omega
  have sX : S X := by unfold S; omega
  have sY : S Y := by unfold S; omega
  have sU : S U := by unfold S; omega
  have sV : S V := by unfold S; omega
  have sU1 : S U1 := by unfold S; omega
  have sM : S (X + m / 2) := by unfold S; omega
  have sN : S (Y + n / 2) := by unfold S; omega
  have HU := Lib.hid hU
  have HV := Lib.hid hV
  have HU1 := Lib.hid hU1
  have HC := Lib.hid (show 2 ≤ m ∧ 2 ≤ n ∧ 0 ≤ m ∧ 0 ≤ n by omega)
  clear hX hY hA hU hB hV hU1 hc
  go_enter Tryd.func7, Tryd.ntmps7
  go_upto_region 1 with (fail)
  go_quiet (fail)
  go_upto_region 6 with (fail)
  obtain ⟨W, hW⟩ : ∃ W, W = ((((((((w.alloc (.cells #[.int .u32 m, .int .u32 n] 42)).drewN nq).alloc (.cells #[.int .i64 X, .int .i64 Y] 23)).alloc (.cells #[.int .i64 U, .int .i64 Y] 23)).alloc (.cells #[.int .i64 U, .int .i64 V] 23)).alloc (.cells #[.int .i64 X, .int .i64 V] 23)).alloc (.cells #[.int .i64 (X + m / 2), .int .i64 (Y + n / 2)] 23)).alloc (.cells #[.int .i64 U1, .int .i64 V] 23)) := ⟨_, rfl⟩
  have hb0 : Below w.heap.size w W := by rw [hW]; exact (((((((below_drewN' ((Below.refl _ _).alloc (Nat.le_refl _) _) nq).alloc (by simp) _).alloc (by simp; omega) _).alloc (by simp; omega) _).alloc (by simp; omega) _).alloc (by simp; omega) _).alloc (by simp; omega) _)
  have C11_W_0 := Lib.hid (show W.cell? ⟨w.heap.size + 1, 0, none⟩ = some (.int .i64 X) by rw [hW]; simp [go_sem])
  have C11_W_1 := Lib.hid (show W.cell? ⟨w.heap.size + 1, 1, none⟩ = some (.int .i64 Y) by rw [hW]; simp [go_sem])
  have C12_W_0 := Lib.hid (show W.cell? ⟨w.heap.size + 1 + 1, 0, none⟩ = some (.int .i64 U) by rw [hW]; simp [go_sem])
  have C12_W_1 := Lib.hid (show W.cell? ⟨w.heap.size + 1 + 1, 1, none⟩ = some (.int .i64 Y) by rw [hW]; simp [go_sem])
  have C13_W_0 := Lib.hid (show W.cell? ⟨w.heap.size + 1 + 1 + 1, 0, none⟩ = some (.int .i64 U) by rw [hW]; simp [go_sem])
  have C13_W_1 := Lib.hid (show W.cell? ⟨w.heap.size + 1 + 1 + 1, 1, none⟩ = some (.int .i64 V) by rw [hW]; simp [go_sem])
  have C14_W_0 := Lib.hid (show W.cell? ⟨w.heap.size + 1 + 1 + 1 + 1, 0, none⟩ = some (.int .i64 X) by rw [hW]; simp [go_sem])
  have C14_W_1 := Lib.hid (show W.cell? ⟨w.heap.size + 1 + 1 + 1 + 1, 1, none⟩ = some (.int .i64 V) by rw [hW]; simp [go_sem])
  have C15_W_0 := Lib.hid (show W.cell? ⟨w.heap.size + 1 + 1 + 1 + 1 + 1, 0, none⟩ = some (.int .i64 (X + m / 2)) by rw [hW]; simp [go_sem])
  have C15_W_1 := Lib.hid (show W.cell? ⟨w.heap.size + 1 + 1 + 1 + 1 + 1, 1, none⟩ = some (.int .i64 (Y + n / 2)) by rw [hW]; simp [go_sem])
  have C16_W_0 := Lib.hid (show W.cell? ⟨w.heap.size + 1 + 1 + 1 + 1 + 1 + 1, 0, none⟩ = some (.int .i64 U1) by rw [hW]; simp [go_sem])
  have C16_W_1 := Lib.hid (show W.cell? ⟨w.heap.size + 1 + 1 + 1 + 1 + 1 + 1, 1, none⟩ = some (.int .i64 V) by rw [hW]; simp [go_sem])
  have HW := Lib.hid hW
  clear hW e1 e2 e3 e4 e5 e6 e7
  rw [← HW.out]
  refine box_plan0 (c := ⟨w, W, (fun _ => none)⟩) (Ctx.ok_none hb0) [[], [(66, 0)], [(67, 1)], [(67, 1)], [(67, 1)], [(67, 1)], [(67, 1), (68, 2), (69, 3), (70, 4), (71, 5)], [(67, 1), (72, 6)], [(67, 1), (73, 7)], [(74, 8)], [(75, 9)], [(75, 9)], [(75, 9)], [(75, 9)], [(75, 9), (76, 10), (77, 11), (78, 12), (79, 13)], [(75, 9), (80, 14)], [(75, 9), (81, 15)], [(82, 16)], [(83, 17)], [(83, 17), (84, 18)], [(83, 17), (85, 19)], [(86, 20)], [(86, 20), (87, 21)], [(83, 17), (86, 20), (88, 22)], [(83, 17), (89, 23)], [(90, 24)], [(90, 24)], [(90, 24)], [(90, 24)], [(90, 24), (91, 25), (92, 26), (93, 27), (94, 28)], [(90, 24), (95, 29)], [(83, 17), (90, 24), (96, 30)], [(83, 17), (97, 31)], [(98, 32)]] [(66, 0), (67, 1), (68, 2), (69, 3), (70, 4), (71, 5), (72, 6), (73, 7), (74, 8), (75, 9), (76, 10), (77, 11), (78, 12), (79, 13), (80, 14), (81, 15), (82, 16), (83, 17), (84, 18), (85, 19), (86, 20), (87, 21), (88, 22), (89, 23), (90, 24), (91, 25), (92, 26), (93, 27), (94, 28), (95, 29), (96, 30), (97, 31), (98, 32), (6, 33)] [
      (fun v _ _ => v = .bool true),
      (fun v _ _ => v = .bool true),
      (fun v _ _ => v = .agg #[.int .i64 X, .int .i64 Y]),
      (fun v _ _ => v = .agg #[.int .i64 U, .int .i64 Y]),
      (fun v _ _ => v = .agg #[.int .i64 U, .int .i64 V]),
      (fun v _ _ => v = .agg #[.int .i64 X, .int .i64 V]),
      SignR ((lc X Y U Y U V X V) * (det X Y U Y U V)),
      (fun v _ _ => v = .bool true),
      (fun v _ _ => v = .bool true),
      (fun v _ _ => v = .bool true),
      (fun v _ _ => v = .agg #[.int .i64 X, .int .i64 Y]),
      (fun v _ _ => v = .agg #[.int .i64 U, .int .i64 Y]),
      (fun v _ _ => v = .agg #[.int .i64 U, .int .i64 V]),
      (fun v _ _ => v = .agg #[.int .i64 U1, .int .i64 V]),
      SignR ((lc X Y U Y U V U1 V) * (det X Y U Y U V)),
      (fun v _ _ => v = .bool true),
      (fun v _ _ => v = .bool true),
      (fun v _ _ => v = .bool true),
      (fun v _ _ => v = .int .u32 m),
      (fun v _ _ => v = .bool false),
      (fun v _ _ => v = .bool false),
      (fun v _ _ => v = .int .u32 n),
      (fun v _ _ => v = .bool false),
      (fun v _ _ => v = .bool false),
      (fun v _ _ => v = .bool false),
      (fun v _ _ => v = .agg #[.int .i64 X, .int .i64 Y]),
      (fun v _ _ => v = .agg #[.int .i64 U, .int .i64 Y]),
      (fun v _ _ => v = .agg #[.int .i64 U, .int .i64 V]),
      (fun v _ _ => v = .agg #[.int .i64 (X + m / 2), .int .i64 (Y + n / 2)]),
      SignR ((lc X Y U Y U V (X + m / 2) (Y + n / 2)) * (det X Y U Y U V)),
      (fun v _ _ => v = .bool true),
      (fun v _ _ => v = .bool true),
      (fun v _ _ => v = .bool true),
      (fun v _ _ => v = .bool true)
    ] (fun _ => none) (by kernel_rfl) (by kernel_rfl) ⟨stab_eq, stab_eq, stab_eq, stab_eq, stab_eq, stab_eq, stab_firm (signR_firm _), stab_eq, stab_eq, stab_eq, stab_eq, stab_eq, stab_eq, stab_eq, stab_firm (signR_firm _), stab_eq, stab_eq, stab_eq, stab_eq, stab_eq, stab_eq, stab_eq, stab_eq, stab_eq, stab_eq, stab_eq, stab_eq, stab_eq, stab_eq, stab_firm (signR_firm _), stab_eq, stab_eq, stab_eq, stab_eq, trivial⟩ ?steps ?fin
  case steps =>
    refine ⟨?_, ?_, ?_, ?_, ?_, ?_, ?_, ?_, ?_, ?_, ?_, ?_, ?_, ?_, ?_, ?_, ?_, ?_, ?_, ?_, ?_, ?_, ?_, ?_, ?_, ?_, ?_, ?_, ?_, ?_, ?_, ?_, ?_, ?_, trivial⟩
    · intro vs g w2 hI hF hR K hK
      simp only [Facts, fill, Act.put, z1, z2, z3, z4, z5, Nat.reduceAdd] at hF hR hK ⊢
      go_simp
      refine (gAlive7 hI hw).mono ?_
      rintro e w3 ⟨v3, rfl, hv, hb⟩
      exact hK _ _ _ (hI.call hb) (Step.call hI hb) hv
    · intro vs g w2 hI hF hR K hK
      simp only [Facts, fill, Act.put, z1, z2, z3, z4, z5, Nat.reduceAdd] at hF hR hK ⊢
      obtain ⟨r0, -⟩ := hR
      generalize vs 0 = x0 at *
      subst r0
      go_simp
      exact hK _ _ _ hI (Step.refl hI) rfl
    · intro vs g w2 hI hF hR K hK
      simp only [Facts, fill, Act.put, z1, z2, z3, z4, z5, Nat.reduceAdd] at hF hR hK ⊢
      obtain ⟨r1, -⟩ := hR
      generalize vs 1 = x1 at *
      subst r1
      have k0 := hI.cell C11_W_0.out (fun _ h => by cases h)
      have k1 := hI.cell C11_W_1.out (fun _ h => by cases h)
      go_simp
      exact hK _ _ _ hI (Step.refl hI) rfl
    · intro vs g w2 hI hF hR K hK
      simp only [Facts, fill, Act.put, z1, z2, z3, z4, z5, Nat.reduceAdd] at hF hR hK ⊢
      obtain ⟨r1, -⟩ := hR
      generalize vs 1 = x1 at *
      subst r1
      have k0 := hI.cell C12_W_0.out (fun _ h => by cases h)
      have k1 := hI.cell C12_W_1.out (fun _ h => by cases h)
      go_simp
      exact hK _ _ _ hI (Step.refl hI) rfl
    · intro vs g w2 hI hF hR K hK
      simp only [Facts, fill, Act.put, z1, z2, z3, z4, z5, Nat.reduceAdd] at hF hR hK ⊢
      obtain ⟨r1, -⟩ := hR
      generalize vs 1 = x1 at *
      subst r1
      have k0 := hI.cell C13_W_0.out (fun _ h => by cases h)
      have k1 := hI.cell C13_W_1.out (fun _ h => by cases h)
      go_simp
      exact hK _ _ _ hI (Step.refl hI) rfl
    · intro vs g w2 hI hF hR K hK
      simp only [Facts, fill, Act.put, z1, z2, z3, z4, z5, Nat.reduceAdd] at hF hR hK ⊢
      obtain ⟨r1, -⟩ := hR
      generalize vs 1 = x1 at *
      subst r1
      have k0 := hI.cell C14_W_0.out (fun _ h => by cases h)
      have k1 := hI.cell C14_W_1.out (fun _ h => by cases h)
      go_simp
      exact hK _ _ _ hI (Step.refl hI) rfl
    · intro vs g w2 hI hF hR K hK
      simp only [Facts, fill, Act.put, z1, z2, z3, z4, z5, Nat.reduceAdd] at hF hR hK ⊢
      obtain ⟨r1, r2, r3, r4, r5, -⟩ := hR
      generalize vs 1 = x1, vs 2 = x2, vs 3 = x3, vs 4 = x4, vs 5 = x5 at *
      subst r1 r2 r3 r4 r5
      go_simp
      refine (gCircleSide hI hw (by first | assumption | (unfold S; decide)) (by first | assumption | (unfold S; decide)) (by first | assumption | (unfold S; decide)) (by first | assumption | (unfold S; decide)) (by first | assumption | (unfold S; decide)) (by first | assumption | (unfold S; decide)) (by first | assumption | (unfold S; decide)) (by first | assumption | (unfold S; decide))).mono ?_
      rintro e w3 ⟨v3, rfl, hv, hb⟩
      exact hK _ _ _ (hI.call hb) (Step.call hI hb) hv
    · intro vs g w2 hI hF hR K hK
      simp only [Facts, fill, Act.put, z1, z2, z3, z4, z5, Nat.reduceAdd] at hF hR hK ⊢
      obtain ⟨r1, r6, -⟩ := hR
      generalize vs 1 = x1, vs 6 = x6 at *
      subst r1
      obtain ⟨sq, rfl, hsq⟩ := r6
      have hz := sign_is (x := lc X Y U Y U V X V * (det X Y U Y U V)) (k := 0) ⟨sq, rfl, hsq⟩ (by rw [HU.out, HV.out, corner_on]; rfl)
      clear hsq
      go_simp
      exact hK _ _ _ hI (Step.refl hI) rfl
    · intro vs g w2 hI hF hR K hK
      simp only [Facts, fill, Act.put, z1, z2, z3, z4, z5, Nat.reduceAdd] at hF hR hK ⊢
      obtain ⟨r1, r7, -⟩ := hR
      generalize vs 1 = x1, vs 7 = x7 at *
      subst r1 r7
      go_simp
      exact hK _ _ _ hI (Step.refl hI) rfl
    · intro vs g w2 hI hF hR K hK
      simp only [Facts, fill, Act.put, z1, z2, z3, z4, z5, Nat.reduceAdd] at hF hR hK ⊢
      obtain ⟨r8, -⟩ := hR
      generalize vs 8 = x8 at *
      subst r8
      go_simp
      exact hK _ _ _ hI (Step.refl hI) rfl
    · intro vs g w2 hI hF hR K hK
      simp only [Facts, fill, Act.put, z1, z2, z3, z4, z5, Nat.reduceAdd] at hF hR hK ⊢
      obtain ⟨r9, -⟩ := hR
      generalize vs 9 = x9 at *
      subst r9
      have k0 := hI.cell C11_W_0.out (fun _ h => by cases h)
      have k1 := hI.cell C11_W_1.out (fun _ h => by cases h)
      go_simp
      exact hK _ _ _ hI (Step.refl hI) rfl
    · intro vs g w2 hI hF hR K hK
      simp only [Facts, fill, Act.put, z1, z2, z3, z4, z5, Nat.reduceAdd] at hF hR hK ⊢
      obtain ⟨r9, -⟩ := hR
      generalize vs 9 = x9 at *
      subst r9
      have k0 := hI.cell C12_W_0.out (fun _ h => by cases h)
      have k1 := hI.cell C12_W_1.out (fun _ h => by cases h)
      go_simp
      exact hK _ _ _ hI (Step.refl hI) rfl
    · intro vs g w2 hI hF hR K hK
      simp only [Facts, fill, Act.put, z1, z2, z3, z4, z5, Nat.reduceAdd] at hF hR hK ⊢
      obtain ⟨r9, -⟩ := hR
      generalize vs 9 = x9 at *
      subst r9
      have k0 := hI.cell C13_W_0.out (fun _ h => by cases h)
      have k1 := hI.cell C13_W_1.out (fun _ h => by cases h)
      go_simp
      exact hK _ _ _ hI (Step.refl hI) rfl
    · intro vs g w2 hI hF hR K hK
      simp only [Facts, fill, Act.put, z1, z2, z3, z4, z5, Nat.reduceAdd] at hF hR hK ⊢
      obtain ⟨r9, -⟩ := hR
      generalize vs 9 = x9 at *
      subst r9
      have k0 := hI.cell C16_W_0.out (fun _ h => by cases h)
      have k1 := hI.cell C16_W_1.out (fun _ h => by cases h)
      go_simp
      exact hK _ _ _ hI (Step.refl hI) rfl
    · intro vs g w2 hI hF hR K hK
      simp only [Facts, fill, Act.put, z1, z2, z3, z4, z5, Nat.reduceAdd] at hF hR hK ⊢
      obtain ⟨r9, r10, r11, r12, r13, -⟩ := hR
      generalize vs 9 = x9, vs 10 = x10, vs 11 = x11, vs 12 = x12, vs 13 = x13 at *
      subst r9 r10 r11 r12 r13
      go_simp
      refine (gCircleSide hI hw (by first | assumption | (unfold S; decide)) (by first | assumption | (unfold S; decide)) (by first | assumption | (unfold S; decide)) (by first | assumption | (unfold S; decide)) (by first | assumption | (unfold S; decide)) (by first | assumption | (unfold S; decide)) (by first | assumption | (unfold S; decide)) (by first | assumption | (unfold S; decide))).mono ?_
      rintro e w3 ⟨v3, rfl, hv, hb⟩
      exact hK _ _ _ (hI.call hb) (Step.call hI hb) hv
    · intro vs g w2 hI hF hR K hK
      simp only [Facts, fill, Act.put, z1, z2, z3, z4, z5, Nat.reduceAdd] at hF hR hK ⊢
      obtain ⟨r9, r14, -⟩ := hR
      generalize vs 9 = x9, vs 14 = x14 at *
      subst r9
      obtain ⟨sq, rfl, hsq⟩ := r14
      have hz := sign_is (x := lc X Y U Y U V U1 V * (det X Y U Y U V)) (k := (-1)) ⟨sq, rfl, hsq⟩ (by have := HC.out; rw [HU1.out, HU.out, HV.out]; exact corner_out (by omega) (by omega))
      clear hsq
      go_simp
      exact hK _ _ _ hI (Step.refl hI) rfl
    · intro vs g w2 hI hF hR K hK
      simp only [Facts, fill, Act.put, z1, z2, z3, z4, z5, Nat.reduceAdd] at hF hR hK ⊢
      obtain ⟨r9, r15, -⟩ := hR
      generalize vs 9 = x9, vs 15 = x15 at *
      subst r9 r15
      go_simp
      exact hK _ _ _ hI (Step.refl hI) rfl
    · intro vs g w2 hI hF hR K hK
      simp only [Facts, fill, Act.put, z1, z2, z3, z4, z5, Nat.reduceAdd] at hF hR hK ⊢
      obtain ⟨r16, -⟩ := hR
      generalize vs 16 = x16 at *
      subst r16
      go_simp
      exact hK _ _ _ hI (Step.refl hI) rfl
    · intro vs g w2 hI hF hR K hK
      simp only [Facts, fill, Act.put, z1, z2, z3, z4, z5, Nat.reduceAdd] at hF hR hK ⊢
      obtain ⟨r17, -⟩ := hR
      generalize vs 17 = x17 at *
      subst r17
      go_simp
      exact hK _ _ _ hI (Step.refl hI) rfl
    · intro vs g w2 hI hF hR K hK
      simp only [Facts, fill, Act.put, z1, z2, z3, z4, z5, Nat.reduceAdd] at hF hR hK ⊢
      obtain ⟨r17, r18, -⟩ := hR
      generalize vs 17 = x17, vs 18 = x18 at *
      subst r17 r18
      have hq : decide (m < 2) = false := by have := HC.out; rw [decide_eq_false_iff_not]; omega
      go_simp
      exact hK _ _ _ hI (Step.refl hI) rfl
    · intro vs g w2 hI hF hR K hK
      simp only [Facts, fill, Act.put, z1, z2, z3, z4, z5, Nat.reduceAdd] at hF hR hK ⊢
      obtain ⟨r17, r19, -⟩ := hR
      generalize vs 17 = x17, vs 19 = x19 at *
      subst r17 r19
      go_simp
      exact hK _ _ _ hI (Step.refl hI) rfl
    · intro vs g w2 hI hF hR K hK
      simp only [Facts, fill, Act.put, z1, z2, z3, z4, z5, Nat.reduceAdd] at hF hR hK ⊢
      obtain ⟨r20, -⟩ := hR
      generalize vs 20 = x20 at *
      subst r20
      go_simp
      exact hK _ _ _ hI (Step.refl hI) rfl
    · intro vs g w2 hI hF hR K hK
      simp only [Facts, fill, Act.put, z1, z2, z3, z4, z5, Nat.reduceAdd] at hF hR hK ⊢
      obtain ⟨r20, r21, -⟩ := hR
      generalize vs 20 = x20, vs 21 = x21 at *
      subst r20 r21
      have hq : decide (n < 2) = false := by have := HC.out; rw [decide_eq_false_iff_not]; omega
      go_simp
      exact hK _ _ _ hI (Step.refl hI) rfl
    · intro vs g w2 hI hF hR K hK
      simp only [Facts, fill, Act.put, z1, z2, z3, z4, z5, Nat.reduceAdd] at hF hR hK ⊢
      obtain ⟨r17, r20, r22, -⟩ := hR
      generalize vs 17 = x17, vs 20 = x20, vs 22 = x22 at *
      subst r17 r20 r22
      go_simp
      exact hK _ _ _ hI (Step.refl hI) rfl
    · intro vs g w2 hI hF hR K hK
      simp only [Facts, fill, Act.put, z1, z2, z3, z4, z5, Nat.reduceAdd] at hF hR hK ⊢
      obtain ⟨r17, r23, -⟩ := hR
      generalize vs 17 = x17, vs 23 = x23 at *
      subst r17 r23
      go_simp
      exact hK _ _ _ hI (Step.refl hI) rfl
    · intro vs g w2 hI hF hR K hK
      simp only [Facts, fill, Act.put, z1, z2, z3, z4, z5, Nat.reduceAdd] at hF hR hK ⊢
      obtain ⟨r24, -⟩ := hR
      generalize vs 24 = x24 at *
      subst r24
      have k0 := hI.cell C11_W_0.out (fun _ h => by cases h)
      have k1 := hI.cell C11_W_1.out (fun _ h => by cases h)
      go_simp
      exact hK _ _ _ hI (Step.refl hI) rfl
    · intro vs g w2 hI hF hR K hK
      simp only [Facts, fill, Act.put, z1, z2, z3, z4, z5, Nat.reduceAdd] at hF hR hK ⊢
      obtain ⟨r24, -⟩ := hR
      generalize vs 24 = x24 at *
      subst r24
      have k0 := hI.cell C12_W_0.out (fun _ h => by cases h)
      have k1 := hI.cell C12_W_1.out (fun _ h => by cases h)
      go_simp
      exact hK _ _ _ hI (Step.refl hI) rfl
    · intro vs g w2 hI hF hR K hK
      simp only [Facts, fill, Act.put, z1, z2, z3, z4, z5, Nat.reduceAdd] at hF hR hK ⊢
      obtain ⟨r24, -⟩ := hR
      generalize vs 24 = x24 at *
      subst r24
      have k0 := hI.cell C13_W_0.out (fun _ h => by cases h)
      have k1 := hI.cell C13_W_1.out (fun _ h => by cases h)
      go_simp
      exact hK _ _ _ hI (Step.refl hI) rfl
    · intro vs g w2 hI hF hR K hK
      simp only [Facts, fill, Act.put, z1, z2, z3, z4, z5, Nat.reduceAdd] at hF hR hK ⊢
      obtain ⟨r24, -⟩ := hR
      generalize vs 24 = x24 at *
      subst r24
      have k0 := hI.cell C15_W_0.out (fun _ h => by cases h)
      have k1 := hI.cell C15_W_1.out (fun _ h => by cases h)
      go_simp
      exact hK _ _ _ hI (Step.refl hI) rfl
    · intro vs g w2 hI hF hR K hK
      simp only [Facts, fill, Act.put, z1, z2, z3, z4, z5, Nat.reduceAdd] at hF hR hK ⊢
      obtain ⟨r24, r25, r26, r27, r28, -⟩ := hR
      generalize vs 24 = x24, vs 25 = x25, vs 26 = x26, vs 27 = x27, vs 28 = x28 at *
      subst r24 r25 r26 r27 r28
      go_simp
      refine (gCircleSide hI hw (by first | assumption | (unfold S; decide)) (by first | assumption | (unfold S; decide)) (by first | assumption | (unfold S; decide)) (by first | assumption | (unfold S; decide)) (by first | assumption | (unfold S; decide)) (by first | assumption | (unfold S; decide)) (by first | assumption | (unfold S; decide)) (by first | assumption | (unfold S; decide))).mono ?_
      rintro e w3 ⟨v3, rfl, hv, hb⟩
      exact hK _ _ _ (hI.call hb) (Step.call hI hb) hv
    · intro vs g w2 hI hF hR K hK
      simp only [Facts, fill, Act.put, z1, z2, z3, z4, z5, Nat.reduceAdd] at hF hR hK ⊢
      obtain ⟨r24, r29, -⟩ := hR
      generalize vs 24 = x24, vs 29 = x29 at *
      subst r24
      obtain ⟨sq, rfl, hsq⟩ := r29
      have hz := sign_is (x := lc X Y U Y U V (X + m / 2) (Y + n / 2) * (det X Y U Y U V)) (k := 1) ⟨sq, rfl, hsq⟩ (by have := HC.out; rw [HU.out, HV.out]; exact corner_in (by omega) (by omega) (by omega) (by omega))
      clear hsq
      go_simp
      exact hK _ _ _ hI (Step.refl hI) rfl
    · intro vs g w2 hI hF hR K hK
      simp only [Facts, fill, Act.put, z1, z2, z3, z4, z5, Nat.reduceAdd] at hF hR hK ⊢
      obtain ⟨r17, r24, r30, -⟩ := hR
      generalize vs 17 = x17, vs 24 = x24, vs 30 = x30 at *
      subst r17 r24 r30
      go_simp
      exact hK _ _ _ hI (Step.refl hI) rfl
    · intro vs g w2 hI hF hR K hK
      simp only [Facts, fill, Act.put, z1, z2, z3, z4, z5, Nat.reduceAdd] at hF hR hK ⊢
      obtain ⟨r17, r31, -⟩ := hR
      generalize vs 17 = x17, vs 31 = x31 at *
      subst r17 r31
      go_simp
      exact hK _ _ _ hI (Step.refl hI) rfl
    · intro vs g w2 hI hF hR K hK
      simp only [Facts, fill, Act.put, z1, z2, z3, z4, z5, Nat.reduceAdd] at hF hR hK ⊢
      obtain ⟨r32, -⟩ := hR
      generalize vs 32 = x32 at *
      subst r32
      go_simp
      exact hK _ _ _ hI (Step.refl hI) rfl
  case fin =>
    intro vs g wR6 hI hR
    have r33 := hR 33 (by decide)
    simp only [fill, Act.put, z1, z2, z3, z4, z5] at r33 ⊢
    clear hR
    generalize vs 33 = x33 at *
    have C11_R6_0 := Lib.hid (hI.cell C11_W_0.out (fun _ h => by cases h))
    have C11_R6_1 := Lib.hid (hI.cell C11_W_1.out (fun _ h => by cases h))
    have C12_R6_0 := Lib.hid (hI.cell C12_W_0.out (fun _ h => by cases h))
    have C12_R6_1 := Lib.hid (hI.cell C12_W_1.out (fun _ h => by cases h))
    have C13_R6_0 := Lib.hid (hI.cell C13_W_0.out (fun _ h => by cases h))
    have C13_R6_1 := Lib.hid (hI.cell C13_W_1.out (fun _ h => by cases h))
    have C14_R6_0 := Lib.hid (hI.cell C14_W_0.out (fun _ h => by cases h))
    have C14_R6_1 := Lib.hid (hI.cell C14_W_1.out (fun _ h => by cases h))
    have C15_R6_0 := Lib.hid (hI.cell C15_W_0.out (fun _ h => by cases h))
    have C15_R6_1 := Lib.hid (hI.cell C15_W_1.out (fun _ h => by cases h))
    have C16_R6_0 := Lib.hid (hI.cell C16_W_0.out (fun _ h => by cases h))
    have C16_R6_1 := Lib.hid (hI.cell C16_W_1.out (fun _ h => by cases h))
    subst r33
    have hBR6 := hI.below
    have HCR6 := hI.next (Ctx.ok_none hb0)
    clear hI
    go_wp2
    go_ret
    exact ⟨rfl, hBR6⟩
theorem law_circleCorners (x y m n : Int) (w : World) (hw : Wts w) (sx : S x) (sy : S y) (hm : 0 ≤ m ∧ m < 4294967296) (hn : 0 ≤ n ∧ n < 4294967296) :
    Calls Tryd.prog 7 #[.int .i64 x, .int .i64 y, .agg #[.int .u32 m, .int .u32 n]] w fun e w' => e = .returned (.bool true) ∧ Below w.heap.size w w' := by
  by_cases h1 : m < 2
  · exact law7C_A x y m n w hw sx sy hm hn h1
  by_cases h2 : n < 2
  · exact law7C_B x y m n w hw sx sy hm hn ⟨by omega, h2⟩
  · exact law7C_D x y m n w hw sx sy hm hn ⟨by omega, by omega⟩
end Go.Proofs.YtckeognbfdladaaDoor
