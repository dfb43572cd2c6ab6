/-
  Law CircleAlternates. (Written by law5.py.)
-/
import Derived.Test.YtckeognbfdladaaDoorLaw7a
import Derived.Deep.RegionLaw
import Derived.BigQuiet
import Derived.Deep.DeepCutAuto
import Derived.Deep.CutRange
namespace Go.Proofs.YtckeognbfdladaaDoor
open Go.RowKit
set_option maxRecDepth 100000
set_option linter.unusedVariables false
set_option linter.unusedSimpArgs false

set_option maxHeartbeats 16000000 in
theorem law_circleAlternates (xa ya xb yb xc yc xd yd i k : Int) (w : World) (hw : Wts w) (sxa : S xa) (sya : S ya) (sxb : S xb) (syb : S yb) (sxc : S xc) (syc : S yc) (sxd : S xd) (syd : S yd) (hi : 0 ≤ i ∧ i < 256) (hk : 0 ≤ k ∧ k < 256) :
    Calls Tryd.prog 5 #[.agg #[.int .i64 xa, .int .i64 ya, .int .i64 xb, .int .i64 yb, .int .i64 xc, .int .i64 yc, .int .i64 xd, .int .i64 yd], .int .u8 i, .int .u8 k] w fun e w' => e = .returned (.bool true) ∧ Below w.heap.size w w' := by
  obtain ⟨I, hI⟩ : ∃ I, I = i % 4 := ⟨_, rfl⟩
  obtain ⟨K, hK⟩ : ∃ K, K = k % 4 := ⟨_, rfl⟩
  have HIK := Lib.hid (show (0 ≤ I ∧ I < 4) ∧ 0 ≤ K ∧ K < 4 by omega)
  have e1 : i % 4 = I := hI.symm
  have e2 : k % 4 = K := hK.symm
  have e3 : i.tmod 4 = I := by rw [Int.tmod_eq_emod_of_nonneg hi.1]; exact e1
  have e4 : k.tmod 4 = K := by rw [Int.tmod_eq_emod_of_nonneg hk.1]; exact e2
  clear hI hK hi hk
  go_enter Tryd.func5, Tryd.ntmps5
  go_upto_region 2 with (fail)
  go_cut [] from 11 to 24 (fun wx => ∃ p0 p1 p2 p3 p4 p5 p6 p7 : Int, (S p0 ∧ S p1 ∧ S p2 ∧ S p3 ∧ S p4 ∧ S p5 ∧ S p6 ∧ S p7) ∧ (I = K → lc p0 p1 p2 p3 p4 p5 p6 p7 = lc xa ya xb yb xc yc xd yd) ∧ (I ≠ K → lc p0 p1 p2 p3 p4 p5 p6 p7 = -lc xa ya xb yb xc yc xd yd) ∧ ∃ n, wx = ((w.alloc (.cells #[.int .i64 xa, .int .i64 ya, .int .i64 xb, .int .i64 yb, .int .i64 xc, .int .i64 yc, .int .i64 xd, .int .i64 yd] 24)).alloc (.cells #[.int .i64 p0, .int .i64 p1, .int .i64 p2, .int .i64 p3, .int .i64 p4, .int .i64 p5, .int .i64 p6, .int .i64 p7] 24)).drewN n)
  case first =>
    have hc : (I = 0 ∧ K = 0) ∨ (I = 0 ∧ K = 1) ∨ (I = 0 ∧ K = 2) ∨ (I = 0 ∧ K = 3) ∨ (I = 1 ∧ K = 0) ∨ (I = 1 ∧ K = 1) ∨ (I = 1 ∧ K = 2) ∨ (I = 1 ∧ K = 3) ∨ (I = 2 ∧ K = 0) ∨ (I = 2 ∧ K = 1) ∨ (I = 2 ∧ K = 2) ∨ (I = 2 ∧ K = 3) ∨ (I = 3 ∧ K = 0) ∨ (I = 3 ∧ K = 1) ∨ (I = 3 ∧ K = 2) ∨ (I = 3 ∧ K = 3) := by have := HIK.out; omega
    rcases hc with ⟨rfl, rfl⟩ | ⟨rfl, rfl⟩ | ⟨rfl, rfl⟩ | ⟨rfl, rfl⟩ | ⟨rfl, rfl⟩ | ⟨rfl, rfl⟩ | ⟨rfl, rfl⟩ | ⟨rfl, rfl⟩ | ⟨rfl, rfl⟩ | ⟨rfl, rfl⟩ | ⟨rfl, rfl⟩ | ⟨rfl, rfl⟩ | ⟨rfl, rfl⟩ | ⟨rfl, rfl⟩ | ⟨rfl, rfl⟩ | ⟨rfl, rfl⟩
    · go_region_law (fail)
      all_goals go_wp2
      all_goals go_meet
      all_goals exact ⟨xa, ya, xb, yb, xc, yc, xd, yd, ⟨sxa, sya, sxb, syb, sxc, syc, sxd, syd⟩, (fun _ => rfl), (fun h => absurd rfl h), 1, rfl⟩
    · go_region_law (fail)
      all_goals go_wp2
      all_goals go_meet
      all_goals exact ⟨xb, yb, xa, ya, xc, yc, xd, yd, ⟨sxb, syb, sxa, sya, sxc, syc, sxd, syd⟩, (fun h => absurd h (by decide)), (fun _ => lc_swap xa ya xb yb xc yc xd yd), 1, rfl⟩
    · go_region_law (fail)
      all_goals go_wp2
      all_goals go_meet
      all_goals exact ⟨xc, yc, xb, yb, xa, ya, xd, yd, ⟨sxc, syc, sxb, syb, sxa, sya, sxd, syd⟩, (fun h => absurd h (by decide)), (fun _ => lc_sw02 xa ya xb yb xc yc xd yd), 1, rfl⟩
    · go_region_law (fail)
      all_goals go_wp2
      all_goals go_meet
      all_goals exact ⟨xd, yd, xb, yb, xc, yc, xa, ya, ⟨sxd, syd, sxb, syb, sxc, syc, sxa, sya⟩, (fun h => absurd h (by decide)), (fun _ => lc_sw03 xa ya xb yb xc yc xd yd), 1, rfl⟩
    · go_region_law (fail)
      all_goals go_wp2
      all_goals go_meet
      all_goals exact ⟨xb, yb, xa, ya, xc, yc, xd, yd, ⟨sxb, syb, sxa, sya, sxc, syc, sxd, syd⟩, (fun h => absurd h (by decide)), (fun _ => lc_swap xa ya xb yb xc yc xd yd), 1, rfl⟩
    · go_region_law (fail)
      all_goals go_wp2
      all_goals go_meet
      all_goals exact ⟨xa, ya, xb, yb, xc, yc, xd, yd, ⟨sxa, sya, sxb, syb, sxc, syc, sxd, syd⟩, (fun _ => rfl), (fun h => absurd rfl h), 1, rfl⟩
    · go_region_law (fail)
      all_goals go_wp2
      all_goals go_meet
      all_goals exact ⟨xa, ya, xc, yc, xb, yb, xd, yd, ⟨sxa, sya, sxc, syc, sxb, syb, sxd, syd⟩, (fun h => absurd h (by decide)), (fun _ => lc_swap2 xa ya xb yb xc yc xd yd), 1, rfl⟩
    · go_region_law (fail)
      all_goals go_wp2
      all_goals go_meet
      all_goals exact ⟨xa, ya, xd, yd, xc, yc, xb, yb, ⟨sxa, sya, sxd, syd, sxc, syc, sxb, syb⟩, (fun h => absurd h (by decide)), (fun _ => lc_sw13 xa ya xb yb xc yc xd yd), 1, rfl⟩
    · go_region_law (fail)
      all_goals go_wp2
      all_goals go_meet
      all_goals exact ⟨xc, yc, xb, yb, xa, ya, xd, yd, ⟨sxc, syc, sxb, syb, sxa, sya, sxd, syd⟩, (fun h => absurd h (by decide)), (fun _ => lc_sw02 xa ya xb yb xc yc xd yd), 1, rfl⟩
    · go_region_law (fail)
      all_goals go_wp2
      all_goals go_meet
      all_goals exact ⟨xa, ya, xc, yc, xb, yb, xd, yd, ⟨sxa, sya, sxc, syc, sxb, syb, sxd, syd⟩, (fun h => absurd h (by decide)), (fun _ => lc_swap2 xa ya xb yb xc yc xd yd), 1, rfl⟩
    · go_region_law (fail)
      all_goals go_wp2
      all_goals go_meet
      all_goals exact ⟨xa, ya, xb, yb, xc, yc, xd, yd, ⟨sxa, sya, sxb, syb, sxc, syc, sxd, syd⟩, (fun _ => rfl), (fun h => absurd rfl h), 1, rfl⟩
    · go_region_law (fail)
      all_goals go_wp2
      all_goals go_meet
      all_goals exact ⟨xa, ya, xb, yb, xd, yd, xc, yc, ⟨sxa, sya, sxb, syb, sxd, syd, sxc, syc⟩, (fun h => absurd h (by decide)), (fun _ => lc_swap3 xa ya xb yb xc yc xd yd), 1, rfl⟩
    · go_region_law (fail)
      all_goals go_wp2
      all_goals go_meet
      all_goals exact ⟨xd, yd, xb, yb, xc, yc, xa, ya, ⟨sxd, syd, sxb, syb, sxc, syc, sxa, sya⟩, (fun h => absurd h (by decide)), (fun _ => lc_sw03 xa ya xb yb xc yc xd yd), 1, rfl⟩
    · go_region_law (fail)
      all_goals go_wp2
      all_goals go_meet
      all_goals exact ⟨xa, ya, xd, yd, xc, yc, xb, yb, ⟨sxa, sya, sxd, syd, sxc, syc, sxb, syb⟩, (fun h => absurd h (by decide)), (fun _ => lc_sw13 xa ya xb yb xc yc xd yd), 1, rfl⟩
    · go_region_law (fail)
      all_goals go_wp2
      all_goals go_meet
      all_goals exact ⟨xa, ya, xb, yb, xd, yd, xc, yc, ⟨sxa, sya, sxb, syb, sxd, syd, sxc, syc⟩, (fun h => absurd h (by decide)), (fun _ => lc_swap3 xa ya xb yb xc yc xd yd), 1, rfl⟩
    · go_region_law (fail)
      all_goals go_wp2
      all_goals go_meet
      all_goals exact ⟨xa, ya, xb, yb, xc, yc, xd, yd, ⟨sxa, sya, sxb, syb, sxc, syc, sxd, syd⟩, (fun _ => rfl), (fun h => absurd rfl h), 1, rfl⟩
  case rest =>
    obtain ⟨p0, p1, p2, p3, p4, p5, p6, p7, ⟨sp0, sp1, sp2, sp3, sp4, sp5, sp6, sp7⟩, heq, hne, n, rfl⟩ := hcut
    have HEQ := Lib.hid heq
    have HNE := Lib.hid hne
    clear heq hne
    obtain ⟨W, hW⟩ : ∃ W, W = ((w.alloc (.cells #[.int .i64 xa, .int .i64 ya, .int .i64 xb, .int .i64 yb, .int .i64 xc, .int .i64 yc, .int .i64 xd, .int .i64 yd] 24)).alloc (.cells #[.int .i64 p0, .int .i64 p1, .int .i64 p2, .int .i64 p3, .int .i64 p4, .int .i64 p5, .int .i64 p6, .int .i64 p7] 24)).drewN n := ⟨_, rfl⟩
    have hb0 : Below w.heap.size w W := by rw [hW]; exact below_drewN' (((Below.refl _ _).alloc (Nat.le_refl _) _).alloc (by simp) _) n
    have Cp_W_0 := Lib.hid (show W.cell? ⟨w.heap.size, 0, none⟩ = some (.int .i64 xa) by rw [hW]; simp [go_sem])
    have Cq_W_0 := Lib.hid (show W.cell? ⟨w.heap.size + 1, 0, none⟩ = some (.int .i64 p0) by rw [hW]; simp [go_sem])
    have Cp_W_1 := Lib.hid (show W.cell? ⟨w.heap.size, 1, none⟩ = some (.int .i64 ya) by rw [hW]; simp [go_sem])
    have Cq_W_1 := Lib.hid (show W.cell? ⟨w.heap.size + 1, 1, none⟩ = some (.int .i64 p1) by rw [hW]; simp [go_sem])
    have Cp_W_2 := Lib.hid (show W.cell? ⟨w.heap.size, 2, none⟩ = some (.int .i64 xb) by rw [hW]; simp [go_sem])
    have Cq_W_2 := Lib.hid (show W.cell? ⟨w.heap.size + 1, 2, none⟩ = some (.int .i64 p2) by rw [hW]; simp [go_sem])
    have Cp_W_3 := Lib.hid (show W.cell? ⟨w.heap.size, 3, none⟩ = some (.int .i64 yb) by rw [hW]; simp [go_sem])
    have Cq_W_3 := Lib.hid (show W.cell? ⟨w.heap.size + 1, 3, none⟩ = some (.int .i64 p3) by rw [hW]; simp [go_sem])
    have Cp_W_4 := Lib.hid (show W.cell? ⟨w.heap.size, 4, none⟩ = some (.int .i64 xc) by rw [hW]; simp [go_sem])
    have Cq_W_4 := Lib.hid (show W.cell? ⟨w.heap.size + 1, 4, none⟩ = some (.int .i64 p4) by rw [hW]; simp [go_sem])
    have Cp_W_5 := Lib.hid (show W.cell? ⟨w.heap.size, 5, none⟩ = some (.int .i64 yc) by rw [hW]; simp [go_sem])
    have Cq_W_5 := Lib.hid (show W.cell? ⟨w.heap.size + 1, 5, none⟩ = some (.int .i64 p5) by rw [hW]; simp [go_sem])
    have Cp_W_6 := Lib.hid (show W.cell? ⟨w.heap.size, 6, none⟩ = some (.int .i64 xd) by rw [hW]; simp [go_sem])
    have Cq_W_6 := Lib.hid (show W.cell? ⟨w.heap.size + 1, 6, none⟩ = some (.int .i64 p6) by rw [hW]; simp [go_sem])
    have Cp_W_7 := Lib.hid (show W.cell? ⟨w.heap.size, 7, none⟩ = some (.int .i64 yd) by rw [hW]; simp [go_sem])
    have Cq_W_7 := Lib.hid (show W.cell? ⟨w.heap.size + 1, 7, none⟩ = some (.int .i64 p7) by rw [hW]; simp [go_sem])
    have HW := Lib.hid hW
    clear hW
    by_cases hx : I = K
    · subst hx
      go_upto_region 3 with (fail)
      rw [← HW.out]
      refine box_plan (c := ⟨w, W, (fun _ => none)⟩) (Ctx.ok_none hb0) (by kernel_rfl) [[], [(25, 0)], [], [(27, 2)], [], [(29, 4)], [], [(31, 6)], [(26, 1), (28, 3), (30, 5), (32, 7)], [], [(34, 9)], [], [(36, 11)], [], [(38, 13)], [], [(40, 15)], [(35, 10), (37, 12), (39, 14), (41, 16)], [(33, 8)], [(42, 17)]] [(25, 0), (26, 1), (27, 2), (28, 3), (29, 4), (30, 5), (31, 6), (32, 7), (33, 8), (34, 9), (35, 10), (36, 11), (37, 12), (38, 13), (39, 14), (40, 15), (41, 16), (42, 17), (8, 18), (9, 19)] [
          (fun v _ _ => v = .pointer (some ⟨w.heap.size, 0, none⟩)),
          (fun v _ _ => v = .agg #[.int .i64 xa, .int .i64 ya]),
          (fun v _ _ => v = .pointer (some ⟨w.heap.size, 2, none⟩)),
          (fun v _ _ => v = .agg #[.int .i64 xb, .int .i64 yb]),
          (fun v _ _ => v = .pointer (some ⟨w.heap.size, 4, none⟩)),
          (fun v _ _ => v = .agg #[.int .i64 xc, .int .i64 yc]),
          (fun v _ _ => v = .pointer (some ⟨w.heap.size, 6, none⟩)),
          (fun v _ _ => v = .agg #[.int .i64 xd, .int .i64 yd]),
          LimR 5 (lc xa ya xb yb xc yc xd yd),
          (fun v _ _ => v = .pointer (some ⟨w.heap.size + 1, 0, none⟩)),
          (fun v _ _ => v = .agg #[.int .i64 p0, .int .i64 p1]),
          (fun v _ _ => v = .pointer (some ⟨w.heap.size + 1, 2, none⟩)),
          (fun v _ _ => v = .agg #[.int .i64 p2, .int .i64 p3]),
          (fun v _ _ => v = .pointer (some ⟨w.heap.size + 1, 4, none⟩)),
          (fun v _ _ => v = .agg #[.int .i64 p4, .int .i64 p5]),
          (fun v _ _ => v = .pointer (some ⟨w.heap.size + 1, 6, none⟩)),
          (fun v _ _ => v = .agg #[.int .i64 p6, .int .i64 p7]),
          LimR 5 (lc p0 p1 p2 p3 p4 p5 p6 p7),
          LimR 5 (lc xa ya xb yb xc yc xd yd),
          LimR 5 (lc p0 p1 p2 p3 p4 p5 p6 p7)
        ] (fun _ => none) (by kernel_rfl) (by kernel_rfl) ⟨stab_eq, stab_eq, stab_eq, stab_eq, stab_eq, stab_eq, stab_eq, stab_eq, stab_firm (limR_firm _ _), stab_eq, stab_eq, stab_eq, stab_eq, stab_eq, stab_eq, stab_eq, stab_eq, stab_firm (limR_firm _ _), stab_firm (limR_firm _ _), stab_firm (limR_firm _ _), trivial⟩ ?steps ?fin
      case steps =>
        refine ⟨?_, ?_, ?_, ?_, ?_, ?_, ?_, ?_, ?_, ?_, ?_, ?_, ?_, ?_, ?_, ?_, ?_, ?_, ?_, ?_, trivial⟩
        · intro vs g w2 hI hF hR K hK
          simp only [Facts, fill, Act.put, z1, z2, z3, z4, z5, Nat.reduceAdd] at hF hR hK ⊢
          go_simp
          exact hK _ _ _ hI (Step.refl hI) rfl
        · intro vs g w2 hI hF hR K hK
          simp only [Facts, fill, Act.put, z1, z2, z3, z4, z5, Nat.reduceAdd] at hF hR hK ⊢
          obtain ⟨r0, -⟩ := hR
          generalize vs 0 = x0 at *
          subst r0
          have k0 := hI.cell Cp_W_0.out (fun _ h => by cases h)
          have k1 := hI.cell Cp_W_1.out (fun _ h => by cases h)
          go_simp
          exact hK _ _ _ hI (Step.refl hI) rfl
        · intro vs g w2 hI hF hR K hK
          simp only [Facts, fill, Act.put, z1, z2, z3, z4, z5, Nat.reduceAdd] at hF hR hK ⊢
          go_simp
          exact hK _ _ _ hI (Step.refl hI) rfl
        · intro vs g w2 hI hF hR K hK
          simp only [Facts, fill, Act.put, z1, z2, z3, z4, z5, Nat.reduceAdd] at hF hR hK ⊢
          obtain ⟨r2, -⟩ := hR
          generalize vs 2 = x2 at *
          subst r2
          have k0 := hI.cell Cp_W_2.out (fun _ h => by cases h)
          have k1 := hI.cell Cp_W_3.out (fun _ h => by cases h)
          go_simp
          exact hK _ _ _ hI (Step.refl hI) rfl
        · intro vs g w2 hI hF hR K hK
          simp only [Facts, fill, Act.put, z1, z2, z3, z4, z5, Nat.reduceAdd] at hF hR hK ⊢
          go_simp
          exact hK _ _ _ hI (Step.refl hI) rfl
        · intro vs g w2 hI hF hR K hK
          simp only [Facts, fill, Act.put, z1, z2, z3, z4, z5, Nat.reduceAdd] at hF hR hK ⊢
          obtain ⟨r4, -⟩ := hR
          generalize vs 4 = x4 at *
          subst r4
          have k0 := hI.cell Cp_W_4.out (fun _ h => by cases h)
          have k1 := hI.cell Cp_W_5.out (fun _ h => by cases h)
          go_simp
          exact hK _ _ _ hI (Step.refl hI) rfl
        · intro vs g w2 hI hF hR K hK
          simp only [Facts, fill, Act.put, z1, z2, z3, z4, z5, Nat.reduceAdd] at hF hR hK ⊢
          go_simp
          exact hK _ _ _ hI (Step.refl hI) rfl
        · intro vs g w2 hI hF hR K hK
          simp only [Facts, fill, Act.put, z1, z2, z3, z4, z5, Nat.reduceAdd] at hF hR hK ⊢
          obtain ⟨r6, -⟩ := hR
          generalize vs 6 = x6 at *
          subst r6
          have k0 := hI.cell Cp_W_6.out (fun _ h => by cases h)
          have k1 := hI.cell Cp_W_7.out (fun _ h => by cases h)
          go_simp
          exact hK _ _ _ hI (Step.refl hI) rfl
        · intro vs g w2 hI hF hR K hK
          simp only [Facts, fill, Act.put, z1, z2, z3, z4, z5, Nat.reduceAdd] at hF hR hK ⊢
          obtain ⟨r1, r3, r5, r7, -⟩ := hR
          generalize vs 1 = x1, vs 3 = x3, vs 5 = x5, vs 7 = x7 at *
          subst r1 r3 r5 r7
          go_simp
          refine (gCircleValue hI hw (by first | assumption | (unfold S; decide)) (by first | assumption | (unfold S; decide)) (by first | assumption | (unfold S; decide)) (by first | assumption | (unfold S; decide)) (by first | assumption | (unfold S; decide)) (by first | assumption | (unfold S; decide)) (by first | assumption | (unfold S; decide)) (by first | assumption | (unfold S; decide))).mono ?_
          rintro e w3 ⟨v3, rfl, hv, hb⟩
          exact hK _ _ _ (hI.call hb) (Step.call hI hb) hv
        · intro vs g w2 hI hF hR K hK
          simp only [Facts, fill, Act.put, z1, z2, z3, z4, z5, Nat.reduceAdd] at hF hR hK ⊢
          go_simp
          exact hK _ _ _ hI (Step.refl hI) rfl
        · intro vs g w2 hI hF hR K hK
          simp only [Facts, fill, Act.put, z1, z2, z3, z4, z5, Nat.reduceAdd] at hF hR hK ⊢
          obtain ⟨r9, -⟩ := hR
          generalize vs 9 = x9 at *
          subst r9
          have k0 := hI.cell Cq_W_0.out (fun _ h => by cases h)
          have k1 := hI.cell Cq_W_1.out (fun _ h => by cases h)
          go_simp
          exact hK _ _ _ hI (Step.refl hI) rfl
        · intro vs g w2 hI hF hR K hK
          simp only [Facts, fill, Act.put, z1, z2, z3, z4, z5, Nat.reduceAdd] at hF hR hK ⊢
          go_simp
          exact hK _ _ _ hI (Step.refl hI) rfl
        · intro vs g w2 hI hF hR K hK
          simp only [Facts, fill, Act.put, z1, z2, z3, z4, z5, Nat.reduceAdd] at hF hR hK ⊢
          obtain ⟨r11, -⟩ := hR
          generalize vs 11 = x11 at *
          subst r11
          have k0 := hI.cell Cq_W_2.out (fun _ h => by cases h)
          have k1 := hI.cell Cq_W_3.out (fun _ h => by cases h)
          go_simp
          exact hK _ _ _ hI (Step.refl hI) rfl
        · intro vs g w2 hI hF hR K hK
          simp only [Facts, fill, Act.put, z1, z2, z3, z4, z5, Nat.reduceAdd] at hF hR hK ⊢
          go_simp
          exact hK _ _ _ hI (Step.refl hI) rfl
        · intro vs g w2 hI hF hR K hK
          simp only [Facts, fill, Act.put, z1, z2, z3, z4, z5, Nat.reduceAdd] at hF hR hK ⊢
          obtain ⟨r13, -⟩ := hR
          generalize vs 13 = x13 at *
          subst r13
          have k0 := hI.cell Cq_W_4.out (fun _ h => by cases h)
          have k1 := hI.cell Cq_W_5.out (fun _ h => by cases h)
          go_simp
          exact hK _ _ _ hI (Step.refl hI) rfl
        · intro vs g w2 hI hF hR K hK
          simp only [Facts, fill, Act.put, z1, z2, z3, z4, z5, Nat.reduceAdd] at hF hR hK ⊢
          go_simp
          exact hK _ _ _ hI (Step.refl hI) rfl
        · intro vs g w2 hI hF hR K hK
          simp only [Facts, fill, Act.put, z1, z2, z3, z4, z5, Nat.reduceAdd] at hF hR hK ⊢
          obtain ⟨r15, -⟩ := hR
          generalize vs 15 = x15 at *
          subst r15
          have k0 := hI.cell Cq_W_6.out (fun _ h => by cases h)
          have k1 := hI.cell Cq_W_7.out (fun _ h => by cases h)
          go_simp
          exact hK _ _ _ hI (Step.refl hI) rfl
        · intro vs g w2 hI hF hR K hK
          simp only [Facts, fill, Act.put, z1, z2, z3, z4, z5, Nat.reduceAdd] at hF hR hK ⊢
          obtain ⟨r10, r12, r14, r16, -⟩ := hR
          generalize vs 10 = x10, vs 12 = x12, vs 14 = x14, vs 16 = x16 at *
          subst r10 r12 r14 r16
          go_simp
          refine (gCircleValue hI hw (by first | assumption | (unfold S; decide)) (by first | assumption | (unfold S; decide)) (by first | assumption | (unfold S; decide)) (by first | assumption | (unfold S; decide)) (by first | assumption | (unfold S; decide)) (by first | assumption | (unfold S; decide)) (by first | assumption | (unfold S; decide)) (by first | assumption | (unfold S; decide))).mono ?_
          rintro e w3 ⟨v3, rfl, hv, hb⟩
          exact hK _ _ _ (hI.call hb) (Step.call hI hb) hv
        · intro vs g w2 hI hF hR K hK
          simp only [Facts, fill, Act.put, z1, z2, z3, z4, z5, Nat.reduceAdd] at hF hR hK ⊢
          obtain ⟨r8, -⟩ := hR
          generalize vs 8 = x8 at *
          go_simp
          exact hK _ _ _ hI (Step.refl hI) r8
        · intro vs g w2 hI hF hR K hK
          simp only [Facts, fill, Act.put, z1, z2, z3, z4, z5, Nat.reduceAdd] at hF hR hK ⊢
          obtain ⟨r17, -⟩ := hR
          generalize vs 17 = x17 at *
          go_simp
          exact hK _ _ _ hI (Step.refl hI) r17
      case fin =>
        intro vs g wR3 hI hR
        have r18 := hR 18 (by decide)
        have r19 := hR 19 (by decide)
        simp only [fill, Act.put, z1, z2, z3, z4, z5] at r18 r19 ⊢
        clear hR
        generalize vs 18 = x18 at *
        generalize vs 19 = x19 at *
        have Cp_R3_0 := Lib.hid (hI.cell Cp_W_0.out (fun _ h => by cases h))
        have Cp_R3_1 := Lib.hid (hI.cell Cp_W_1.out (fun _ h => by cases h))
        have Cp_R3_2 := Lib.hid (hI.cell Cp_W_2.out (fun _ h => by cases h))
        have Cp_R3_3 := Lib.hid (hI.cell Cp_W_3.out (fun _ h => by cases h))
        have Cp_R3_4 := Lib.hid (hI.cell Cp_W_4.out (fun _ h => by cases h))
        have Cp_R3_5 := Lib.hid (hI.cell Cp_W_5.out (fun _ h => by cases h))
        have Cp_R3_6 := Lib.hid (hI.cell Cp_W_6.out (fun _ h => by cases h))
        have Cp_R3_7 := Lib.hid (hI.cell Cp_W_7.out (fun _ h => by cases h))
        have Cq_R3_0 := Lib.hid (hI.cell Cq_W_0.out (fun _ h => by cases h))
        have Cq_R3_1 := Lib.hid (hI.cell Cq_W_1.out (fun _ h => by cases h))
        have Cq_R3_2 := Lib.hid (hI.cell Cq_W_2.out (fun _ h => by cases h))
        have Cq_R3_3 := Lib.hid (hI.cell Cq_W_3.out (fun _ h => by cases h))
        have Cq_R3_4 := Lib.hid (hI.cell Cq_W_4.out (fun _ h => by cases h))
        have Cq_R3_5 := Lib.hid (hI.cell Cq_W_5.out (fun _ h => by cases h))
        have Cq_R3_6 := Lib.hid (hI.cell Cq_W_6.out (fun _ h => by cases h))
        have Cq_R3_7 := Lib.hid (hI.cell Cq_W_7.out (fun _ h => by cases h))
        have qfR38 := r18
        obtain ⟨AvR38, cvR38, rfl⟩ := limR_open r18
        have FR38_R3_0 := Lib.hid ((limR_firm _ _) _ _ _ _ _ qfR38 hI.back)
        clear qfR38
        have qfR39 := r19
        obtain ⟨AvR39, cvR39, rfl⟩ := limR_open r19
        have FR39_R3_0 := Lib.hid ((limR_firm _ _) _ _ _ _ _ qfR39 hI.back)
        clear qfR39
        have hBR3 := hI.below
        have HCR3 := hI.next (Ctx.ok_none hb0)
        clear hI
        go_upto_region 4 with (fail)
        refine box_plan0 (c := ⟨w, wR3, (fun _ => none)⟩) HCR3 [[], [(43, 0)], [(44, 1)], [(45, 2)], [(46, 3)], [(46, 3), (47, 4)], [(46, 3), (48, 5)], [(46, 3), (49, 6)]] [(43, 0), (44, 1), (45, 2), (46, 3), (47, 4), (48, 5), (49, 6), (50, 7)] [
            (fun v _ _ => v = .slice AvR38 5 cvR38),
            (fun v _ _ => v = .int .i64 5),
            (fun v _ _ => v = .bool false),
            (fun v _ _ => v = .bool false),
            (fun v _ _ => v = .slice AvR39 5 cvR39),
            (fun v _ _ => v = .int .i64 5),
            (fun v _ _ => v = .bool false),
            (fun v _ _ => v = .bool false)
          ] (fun _ => none) (by kernel_rfl) (by kernel_rfl) ⟨stab_eq, stab_eq, stab_eq, stab_eq, stab_eq, stab_eq, stab_eq, stab_eq, trivial⟩ ?steps ?fin
        case steps =>
          refine ⟨?_, ?_, ?_, ?_, ?_, ?_, ?_, ?_, trivial⟩
          · intro vs g w2 hI hF hR K hK
            simp only [Facts, fill, Act.put, z1, z2, z3, z4, z5, Nat.reduceAdd] at hF hR hK ⊢
            go_simp
            exact hK _ _ _ hI (Step.refl hI) rfl
          · intro vs g w2 hI hF hR K hK
            simp only [Facts, fill, Act.put, z1, z2, z3, z4, z5, Nat.reduceAdd] at hF hR hK ⊢
            obtain ⟨r0, -⟩ := hR
            generalize vs 0 = x0 at *
            subst r0
            go_simp
            exact hK _ _ _ hI (Step.refl hI) rfl
          · intro vs g w2 hI hF hR K hK
            simp only [Facts, fill, Act.put, z1, z2, z3, z4, z5, Nat.reduceAdd] at hF hR hK ⊢
            obtain ⟨r1, -⟩ := hR
            generalize vs 1 = x1 at *
            subst r1
            go_simp
            exact hK _ _ _ hI (Step.refl hI) rfl
          · intro vs g w2 hI hF hR K hK
            simp only [Facts, fill, Act.put, z1, z2, z3, z4, z5, Nat.reduceAdd] at hF hR hK ⊢
            obtain ⟨r2, -⟩ := hR
            generalize vs 2 = x2 at *
            subst r2
            go_simp
            exact hK _ _ _ hI (Step.refl hI) rfl
          · intro vs g w2 hI hF hR K hK
            simp only [Facts, fill, Act.put, z1, z2, z3, z4, z5, Nat.reduceAdd] at hF hR hK ⊢
            obtain ⟨r3, -⟩ := hR
            generalize vs 3 = x3 at *
            subst r3
            go_simp
            exact hK _ _ _ hI (Step.refl hI) rfl
          · intro vs g w2 hI hF hR K hK
            simp only [Facts, fill, Act.put, z1, z2, z3, z4, z5, Nat.reduceAdd] at hF hR hK ⊢
            obtain ⟨r3, r4, -⟩ := hR
            generalize vs 3 = x3, vs 4 = x4 at *
            subst r3 r4
            go_simp
            exact hK _ _ _ hI (Step.refl hI) rfl
          · intro vs g w2 hI hF hR K hK
            simp only [Facts, fill, Act.put, z1, z2, z3, z4, z5, Nat.reduceAdd] at hF hR hK ⊢
            obtain ⟨r3, r5, -⟩ := hR
            generalize vs 3 = x3, vs 5 = x5 at *
            subst r3 r5
            go_simp
            exact hK _ _ _ hI (Step.refl hI) rfl
          · intro vs g w2 hI hF hR K hK
            simp only [Facts, fill, Act.put, z1, z2, z3, z4, z5, Nat.reduceAdd] at hF hR hK ⊢
            obtain ⟨r3, r6, -⟩ := hR
            generalize vs 3 = x3, vs 6 = x6 at *
            subst r3 r6
            go_simp
            exact hK _ _ _ hI (Step.refl hI) rfl
        case fin =>
          intro vs g wR4 hI hR
          have r7 := hR 7 (by decide)
          simp only [fill, Act.put, z1, z2, z3, z4, z5] at r7 ⊢
          clear hR
          generalize vs 7 = x7 at *
          have Cp_R4_0 := Lib.hid (hI.cell Cp_R3_0.out (fun _ h => by cases h))
          have Cp_R4_1 := Lib.hid (hI.cell Cp_R3_1.out (fun _ h => by cases h))
          have Cp_R4_2 := Lib.hid (hI.cell Cp_R3_2.out (fun _ h => by cases h))
          have Cp_R4_3 := Lib.hid (hI.cell Cp_R3_3.out (fun _ h => by cases h))
          have Cp_R4_4 := Lib.hid (hI.cell Cp_R3_4.out (fun _ h => by cases h))
          have Cp_R4_5 := Lib.hid (hI.cell Cp_R3_5.out (fun _ h => by cases h))
          have Cp_R4_6 := Lib.hid (hI.cell Cp_R3_6.out (fun _ h => by cases h))
          have Cp_R4_7 := Lib.hid (hI.cell Cp_R3_7.out (fun _ h => by cases h))
          have Cq_R4_0 := Lib.hid (hI.cell Cq_R3_0.out (fun _ h => by cases h))
          have Cq_R4_1 := Lib.hid (hI.cell Cq_R3_1.out (fun _ h => by cases h))
          have Cq_R4_2 := Lib.hid (hI.cell Cq_R3_2.out (fun _ h => by cases h))
          have Cq_R4_3 := Lib.hid (hI.cell Cq_R3_3.out (fun _ h => by cases h))
          have Cq_R4_4 := Lib.hid (hI.cell Cq_R3_4.out (fun _ h => by cases h))
          have Cq_R4_5 := Lib.hid (hI.cell Cq_R3_5.out (fun _ h => by cases h))
          have Cq_R4_6 := Lib.hid (hI.cell Cq_R3_6.out (fun _ h => by cases h))
          have Cq_R4_7 := Lib.hid (hI.cell Cq_R3_7.out (fun _ h => by cases h))
          have FR38_R4_0 := Lib.hid ((limR_firm _ _) _ _ _ _ _ FR38_R3_0.out hI.carry)
          have FR39_R4_0 := Lib.hid ((limR_firm _ _) _ _ _ _ _ FR39_R3_0.out hI.carry)
          subst r7
          have hBR4 := hI.below
          have HCR4 := hI.next HCR3
          clear hI
          go_upto_region 7 with (fail)
          refine box_plan0 (c := ⟨w, wR4, (fun _ => none)⟩) HCR4 [[], [(56, 0)], [(57, 1)], [(57, 1)], [(57, 1), (58, 2), (59, 3)], [(57, 1), (60, 4)], [(61, 5)]] [(56, 0), (57, 1), (58, 2), (59, 3), (60, 4), (61, 5), (6, 6)] [
              (fun v _ _ => v = .bool true),
              (fun v _ _ => v = .bool true),
              (fun v _ _ => v = .slice AvR38 5 cvR38),
              (fun v _ _ => v = .slice AvR39 5 cvR39),
              (fun v _ _ => v = .bool true),
              (fun v _ _ => v = .bool true),
              (fun v _ _ => v = .bool true)
            ] (fun _ => none) (by kernel_rfl) (by kernel_rfl) ⟨stab_eq, stab_eq, stab_eq, stab_eq, stab_eq, stab_eq, stab_eq, trivial⟩ ?steps ?fin
          case steps =>
            refine ⟨?_, ?_, ?_, ?_, ?_, ?_, ?_, trivial⟩
            · intro vs g w2 hI hF hR K hK
              simp only [Facts, fill, Act.put, z1, z2, z3, z4, z5, Nat.reduceAdd] at hF hR hK ⊢
              go_simp
              refine (gAlive7 hI hw).mono ?_
              rintro e w3 ⟨v3, rfl, hv, hb⟩
              exact hK _ _ _ (hI.call hb) (Step.call hI hb) hv
            · intro vs g w2 hI hF hR K hK
              simp only [Facts, fill, Act.put, z1, z2, z3, z4, z5, Nat.reduceAdd] at hF hR hK ⊢
              obtain ⟨r0, -⟩ := hR
              generalize vs 0 = x0 at *
              subst r0
              go_simp
              exact hK _ _ _ hI (Step.refl hI) rfl
            · intro vs g w2 hI hF hR K hK
              simp only [Facts, fill, Act.put, z1, z2, z3, z4, z5, Nat.reduceAdd] at hF hR hK ⊢
              obtain ⟨r1, -⟩ := hR
              generalize vs 1 = x1 at *
              subst r1
              go_simp
              exact hK _ _ _ hI (Step.refl hI) rfl
            · intro vs g w2 hI hF hR K hK
              simp only [Facts, fill, Act.put, z1, z2, z3, z4, z5, Nat.reduceAdd] at hF hR hK ⊢
              obtain ⟨r1, -⟩ := hR
              generalize vs 1 = x1 at *
              subst r1
              go_simp
              exact hK _ _ _ hI (Step.refl hI) rfl
            · intro vs g w2 hI hF hR K hK
              simp only [Facts, fill, Act.put, z1, z2, z3, z4, z5, Nat.reduceAdd] at hF hR hK ⊢
              obtain ⟨r1, r2, r3, -⟩ := hR
              generalize vs 1 = x1, vs 2 = x2, vs 3 = x3 at *
              subst r1 r2 r3
              go_simp
              refine (gSame ((limR_firm _ _) _ _ _ _ _ FR38_R4_0.out hI.keeps) ((limR_firm _ _) _ _ _ _ _ FR39_R4_0.out hI.keeps) (by decide) (by rw [HEQ.out rfl])).mono ?_
              rintro e w3 ⟨v3, rfl, hv, hb⟩
              exact hK _ _ _ (hI.call hb) (Step.call hI hb) hv
            · intro vs g w2 hI hF hR K hK
              simp only [Facts, fill, Act.put, z1, z2, z3, z4, z5, Nat.reduceAdd] at hF hR hK ⊢
              obtain ⟨r1, r4, -⟩ := hR
              generalize vs 1 = x1, vs 4 = x4 at *
              subst r1 r4
              go_simp
              exact hK _ _ _ hI (Step.refl hI) rfl
            · intro vs g w2 hI hF hR K hK
              simp only [Facts, fill, Act.put, z1, z2, z3, z4, z5, Nat.reduceAdd] at hF hR hK ⊢
              obtain ⟨r5, -⟩ := hR
              generalize vs 5 = x5 at *
              subst r5
              go_simp
              exact hK _ _ _ hI (Step.refl hI) rfl
          case fin =>
            intro vs g wR7 hI hR
            have r6 := hR 6 (by decide)
            simp only [fill, Act.put, z1, z2, z3, z4, z5] at r6 ⊢
            clear hR
            generalize vs 6 = x6 at *
            have Cp_R7_0 := Lib.hid (hI.cell Cp_R4_0.out (fun _ h => by cases h))
            have Cp_R7_1 := Lib.hid (hI.cell Cp_R4_1.out (fun _ h => by cases h))
            have Cp_R7_2 := Lib.hid (hI.cell Cp_R4_2.out (fun _ h => by cases h))
            have Cp_R7_3 := Lib.hid (hI.cell Cp_R4_3.out (fun _ h => by cases h))
            have Cp_R7_4 := Lib.hid (hI.cell Cp_R4_4.out (fun _ h => by cases h))
            have Cp_R7_5 := Lib.hid (hI.cell Cp_R4_5.out (fun _ h => by cases h))
            have Cp_R7_6 := Lib.hid (hI.cell Cp_R4_6.out (fun _ h => by cases h))
            have Cp_R7_7 := Lib.hid (hI.cell Cp_R4_7.out (fun _ h => by cases h))
            have Cq_R7_0 := Lib.hid (hI.cell Cq_R4_0.out (fun _ h => by cases h))
            have Cq_R7_1 := Lib.hid (hI.cell Cq_R4_1.out (fun _ h => by cases h))
            have Cq_R7_2 := Lib.hid (hI.cell Cq_R4_2.out (fun _ h => by cases h))
            have Cq_R7_3 := Lib.hid (hI.cell Cq_R4_3.out (fun _ h => by cases h))
            have Cq_R7_4 := Lib.hid (hI.cell Cq_R4_4.out (fun _ h => by cases h))
            have Cq_R7_5 := Lib.hid (hI.cell Cq_R4_5.out (fun _ h => by cases h))
            have Cq_R7_6 := Lib.hid (hI.cell Cq_R4_6.out (fun _ h => by cases h))
            have Cq_R7_7 := Lib.hid (hI.cell Cq_R4_7.out (fun _ h => by cases h))
            have FR38_R7_0 := Lib.hid ((limR_firm _ _) _ _ _ _ _ FR38_R4_0.out hI.carry)
            have FR39_R7_0 := Lib.hid ((limR_firm _ _) _ _ _ _ _ FR39_R4_0.out hI.carry)
            subst r6
            have hBR7 := hI.below
            have HCR7 := hI.next HCR4
            clear hI
            go_wp2
            go_ret
            exact ⟨rfl, hBR7⟩
    · have HX := Lib.hid hx
      have hx2 : (I == K) = false := by rw [beq_eq_false_iff_ne]; exact hx
      clear hx
      go_upto_region 3 with (fail)
      rw [← HW.out]
      refine box_plan (c := ⟨w, W, (fun _ => none)⟩) (Ctx.ok_none hb0) (by kernel_rfl) [[], [(25, 0)], [], [(27, 2)], [], [(29, 4)], [], [(31, 6)], [(26, 1), (28, 3), (30, 5), (32, 7)], [], [(34, 9)], [], [(36, 11)], [], [(38, 13)], [], [(40, 15)], [(35, 10), (37, 12), (39, 14), (41, 16)], [(33, 8)], [(42, 17)]] [(25, 0), (26, 1), (27, 2), (28, 3), (29, 4), (30, 5), (31, 6), (32, 7), (33, 8), (34, 9), (35, 10), (36, 11), (37, 12), (38, 13), (39, 14), (40, 15), (41, 16), (42, 17), (8, 18), (9, 19)] [
          (fun v _ _ => v = .pointer (some ⟨w.heap.size, 0, none⟩)),
          (fun v _ _ => v = .agg #[.int .i64 xa, .int .i64 ya]),
          (fun v _ _ => v = .pointer (some ⟨w.heap.size, 2, none⟩)),
          (fun v _ _ => v = .agg #[.int .i64 xb, .int .i64 yb]),
          (fun v _ _ => v = .pointer (some ⟨w.heap.size, 4, none⟩)),
          (fun v _ _ => v = .agg #[.int .i64 xc, .int .i64 yc]),
          (fun v _ _ => v = .pointer (some ⟨w.heap.size, 6, none⟩)),
          (fun v _ _ => v = .agg #[.int .i64 xd, .int .i64 yd]),
          LimR 5 (lc xa ya xb yb xc yc xd yd),
          (fun v _ _ => v = .pointer (some ⟨w.heap.size + 1, 0, none⟩)),
          (fun v _ _ => v = .agg #[.int .i64 p0, .int .i64 p1]),
          (fun v _ _ => v = .pointer (some ⟨w.heap.size + 1, 2, none⟩)),
          (fun v _ _ => v = .agg #[.int .i64 p2, .int .i64 p3]),
          (fun v _ _ => v = .pointer (some ⟨w.heap.size + 1, 4, none⟩)),
          (fun v _ _ => v = .agg #[.int .i64 p4, .int .i64 p5]),
          (fun v _ _ => v = .pointer (some ⟨w.heap.size + 1, 6, none⟩)),
          (fun v _ _ => v = .agg #[.int .i64 p6, .int .i64 p7]),
          LimR 5 (lc p0 p1 p2 p3 p4 p5 p6 p7),
          LimR 5 (lc xa ya xb yb xc yc xd yd),
          LimR 5 (lc p0 p1 p2 p3 p4 p5 p6 p7)
        ] (fun _ => none) (by kernel_rfl) (by kernel_rfl) ⟨stab_eq, stab_eq, stab_eq, stab_eq, stab_eq, stab_eq, stab_eq, stab_eq, stab_firm (limR_firm _ _), stab_eq, stab_eq, stab_eq, stab_eq, stab_eq, stab_eq, stab_eq, stab_eq, stab_firm (limR_firm _ _), stab_firm (limR_firm _ _), stab_firm (limR_firm _ _), trivial⟩ ?steps ?fin
      case steps =>
        refine ⟨?_, ?_, ?_, ?_, ?_, ?_, ?_, ?_, ?_, ?_, ?_, ?_, ?_, ?_, ?_, ?_, ?_, ?_, ?_, ?_, trivial⟩
        · intro vs g w2 hI hF hR K hK
          simp only [Facts, fill, Act.put, z1, z2, z3, z4, z5, Nat.reduceAdd] at hF hR hK ⊢
          go_simp
          exact hK _ _ _ hI (Step.refl hI) rfl
        · intro vs g w2 hI hF hR K hK
          simp only [Facts, fill, Act.put, z1, z2, z3, z4, z5, Nat.reduceAdd] at hF hR hK ⊢
          obtain ⟨r0, -⟩ := hR
          generalize vs 0 = x0 at *
          subst r0
          have k0 := hI.cell Cp_W_0.out (fun _ h => by cases h)
          have k1 := hI.cell Cp_W_1.out (fun _ h => by cases h)
          go_simp
          exact hK _ _ _ hI (Step.refl hI) rfl
        · intro vs g w2 hI hF hR K hK
          simp only [Facts, fill, Act.put, z1, z2, z3, z4, z5, Nat.reduceAdd] at hF hR hK ⊢
          go_simp
          exact hK _ _ _ hI (Step.refl hI) rfl
        · intro vs g w2 hI hF hR K hK
          simp only [Facts, fill, Act.put, z1, z2, z3, z4, z5, Nat.reduceAdd] at hF hR hK ⊢
          obtain ⟨r2, -⟩ := hR
          generalize vs 2 = x2 at *
          subst r2
          have k0 := hI.cell Cp_W_2.out (fun _ h => by cases h)
          have k1 := hI.cell Cp_W_3.out (fun _ h => by cases h)
          go_simp
          exact hK _ _ _ hI (Step.refl hI) rfl
        · intro vs g w2 hI hF hR K hK
          simp only [Facts, fill, Act.put, z1, z2, z3, z4, z5, Nat.reduceAdd] at hF hR hK ⊢
          go_simp
          exact hK _ _ _ hI (Step.refl hI) rfl
        · intro vs g w2 hI hF hR K hK
          simp only [Facts, fill, Act.put, z1, z2, z3, z4, z5, Nat.reduceAdd] at hF hR hK ⊢
          obtain ⟨r4, -⟩ := hR
          generalize vs 4 = x4 at *
          subst r4
          have k0 := hI.cell Cp_W_4.out (fun _ h => by cases h)
          have k1 := hI.cell Cp_W_5.out (fun _ h => by cases h)
          go_simp
          exact hK _ _ _ hI (Step.refl hI) rfl
        · intro vs g w2 hI hF hR K hK
          simp only [Facts, fill, Act.put, z1, z2, z3, z4, z5, Nat.reduceAdd] at hF hR hK ⊢
          go_simp
          exact hK _ _ _ hI (Step.refl hI) rfl
        · intro vs g w2 hI hF hR K hK
          simp only [Facts, fill, Act.put, z1, z2, z3, z4, z5, Nat.reduceAdd] at hF hR hK ⊢
          obtain ⟨r6, -⟩ := hR
          generalize vs 6 = x6 at *
          subst r6
          have k0 := hI.cell Cp_W_6.out (fun _ h => by cases h)
          have k1 := hI.cell Cp_W_7.out (fun _ h => by cases h)
          go_simp
          exact hK _ _ _ hI (Step.refl hI) rfl
        · intro vs g w2 hI hF hR K hK
          simp only [Facts, fill, Act.put, z1, z2, z3, z4, z5, Nat.reduceAdd] at hF hR hK ⊢
          obtain ⟨r1, r3, r5, r7, -⟩ := hR
          generalize vs 1 = x1, vs 3 = x3, vs 5 = x5, vs 7 = x7 at *
          subst r1 r3 r5 r7
          go_simp
          refine (gCircleValue hI hw (by first | assumption | (unfold S; decide)) (by first | assumption | (unfold S; decide)) (by first | assumption | (unfold S; decide)) (by first | assumption | (unfold S; decide)) (by first | assumption | (unfold S; decide)) (by first | assumption | (unfold S; decide)) (by first | assumption | (unfold S; decide)) (by first | assumption | (unfold S; decide))).mono ?_
          rintro e w3 ⟨v3, rfl, hv, hb⟩
          exact hK _ _ _ (hI.call hb) (Step.call hI hb) hv
        · intro vs g w2 hI hF hR K hK
          simp only [Facts, fill, Act.put, z1, z2, z3, z4, z5, Nat.reduceAdd] at hF hR hK ⊢
          go_simp
          exact hK _ _ _ hI (Step.refl hI) rfl
        · intro vs g w2 hI hF hR K hK
          simp only [Facts, fill, Act.put, z1, z2, z3, z4, z5, Nat.reduceAdd] at hF hR hK ⊢
          obtain ⟨r9, -⟩ := hR
          generalize vs 9 = x9 at *
          subst r9
          have k0 := hI.cell Cq_W_0.out (fun _ h => by cases h)
          have k1 := hI.cell Cq_W_1.out (fun _ h => by cases h)
          go_simp
          exact hK _ _ _ hI (Step.refl hI) rfl
        · intro vs g w2 hI hF hR K hK
          simp only [Facts, fill, Act.put, z1, z2, z3, z4, z5, Nat.reduceAdd] at hF hR hK ⊢
          go_simp
          exact hK _ _ _ hI (Step.refl hI) rfl
        · intro vs g w2 hI hF hR K hK
          simp only [Facts, fill, Act.put, z1, z2, z3, z4, z5, Nat.reduceAdd] at hF hR hK ⊢
          obtain ⟨r11, -⟩ := hR
          generalize vs 11 = x11 at *
          subst r11
          have k0 := hI.cell Cq_W_2.out (fun _ h => by cases h)
          have k1 := hI.cell Cq_W_3.out (fun _ h => by cases h)
          go_simp
          exact hK _ _ _ hI (Step.refl hI) rfl
        · intro vs g w2 hI hF hR K hK
          simp only [Facts, fill, Act.put, z1, z2, z3, z4, z5, Nat.reduceAdd] at hF hR hK ⊢
          go_simp
          exact hK _ _ _ hI (Step.refl hI) rfl
        · intro vs g w2 hI hF hR K hK
          simp only [Facts, fill, Act.put, z1, z2, z3, z4, z5, Nat.reduceAdd] at hF hR hK ⊢
          obtain ⟨r13, -⟩ := hR
          generalize vs 13 = x13 at *
          subst r13
          have k0 := hI.cell Cq_W_4.out (fun _ h => by cases h)
          have k1 := hI.cell Cq_W_5.out (fun _ h => by cases h)
          go_simp
          exact hK _ _ _ hI (Step.refl hI) rfl
        · intro vs g w2 hI hF hR K hK
          simp only [Facts, fill, Act.put, z1, z2, z3, z4, z5, Nat.reduceAdd] at hF hR hK ⊢
          go_simp
          exact hK _ _ _ hI (Step.refl hI) rfl
        · intro vs g w2 hI hF hR K hK
          simp only [Facts, fill, Act.put, z1, z2, z3, z4, z5, Nat.reduceAdd] at hF hR hK ⊢
          obtain ⟨r15, -⟩ := hR
          generalize vs 15 = x15 at *
          subst r15
          have k0 := hI.cell Cq_W_6.out (fun _ h => by cases h)
          have k1 := hI.cell Cq_W_7.out (fun _ h => by cases h)
          go_simp
          exact hK _ _ _ hI (Step.refl hI) rfl
        · intro vs g w2 hI hF hR K hK
          simp only [Facts, fill, Act.put, z1, z2, z3, z4, z5, Nat.reduceAdd] at hF hR hK ⊢
          obtain ⟨r10, r12, r14, r16, -⟩ := hR
          generalize vs 10 = x10, vs 12 = x12, vs 14 = x14, vs 16 = x16 at *
          subst r10 r12 r14 r16
          go_simp
          refine (gCircleValue hI hw (by first | assumption | (unfold S; decide)) (by first | assumption | (unfold S; decide)) (by first | assumption | (unfold S; decide)) (by first | assumption | (unfold S; decide)) (by first | assumption | (unfold S; decide)) (by first | assumption | (unfold S; decide)) (by first | assumption | (unfold S; decide)) (by first | assumption | (unfold S; decide))).mono ?_
          rintro e w3 ⟨v3, rfl, hv, hb⟩
          exact hK _ _ _ (hI.call hb) (Step.call hI hb) hv
        · intro vs g w2 hI hF hR K hK
          simp only [Facts, fill, Act.put, z1, z2, z3, z4, z5, Nat.reduceAdd] at hF hR hK ⊢
          obtain ⟨r8, -⟩ := hR
          generalize vs 8 = x8 at *
          go_simp
          exact hK _ _ _ hI (Step.refl hI) r8
        · intro vs g w2 hI hF hR K hK
          simp only [Facts, fill, Act.put, z1, z2, z3, z4, z5, Nat.reduceAdd] at hF hR hK ⊢
          obtain ⟨r17, -⟩ := hR
          generalize vs 17 = x17 at *
          go_simp
          exact hK _ _ _ hI (Step.refl hI) r17
      case fin =>
        intro vs g wR3 hI hR
        have r18 := hR 18 (by decide)
        have r19 := hR 19 (by decide)
        simp only [fill, Act.put, z1, z2, z3, z4, z5] at r18 r19 ⊢
        clear hR
        generalize vs 18 = x18 at *
        generalize vs 19 = x19 at *
        have Cp_R3_0 := Lib.hid (hI.cell Cp_W_0.out (fun _ h => by cases h))
        have Cp_R3_1 := Lib.hid (hI.cell Cp_W_1.out (fun _ h => by cases h))
        have Cp_R3_2 := Lib.hid (hI.cell Cp_W_2.out (fun _ h => by cases h))
        have Cp_R3_3 := Lib.hid (hI.cell Cp_W_3.out (fun _ h => by cases h))
        have Cp_R3_4 := Lib.hid (hI.cell Cp_W_4.out (fun _ h => by cases h))
        have Cp_R3_5 := Lib.hid (hI.cell Cp_W_5.out (fun _ h => by cases h))
        have Cp_R3_6 := Lib.hid (hI.cell Cp_W_6.out (fun _ h => by cases h))
        have Cp_R3_7 := Lib.hid (hI.cell Cp_W_7.out (fun _ h => by cases h))
        have Cq_R3_0 := Lib.hid (hI.cell Cq_W_0.out (fun _ h => by cases h))
        have Cq_R3_1 := Lib.hid (hI.cell Cq_W_1.out (fun _ h => by cases h))
        have Cq_R3_2 := Lib.hid (hI.cell Cq_W_2.out (fun _ h => by cases h))
        have Cq_R3_3 := Lib.hid (hI.cell Cq_W_3.out (fun _ h => by cases h))
        have Cq_R3_4 := Lib.hid (hI.cell Cq_W_4.out (fun _ h => by cases h))
        have Cq_R3_5 := Lib.hid (hI.cell Cq_W_5.out (fun _ h => by cases h))
        have Cq_R3_6 := Lib.hid (hI.cell Cq_W_6.out (fun _ h => by cases h))
        have Cq_R3_7 := Lib.hid (hI.cell Cq_W_7.out (fun _ h => by cases h))
        have qfR38 := r18
        obtain ⟨AvR38, cvR38, rfl⟩ := limR_open r18
        have FR38_R3_0 := Lib.hid ((limR_firm _ _) _ _ _ _ _ qfR38 hI.back)
        clear qfR38
        have qfR39 := r19
        obtain ⟨AvR39, cvR39, rfl⟩ := limR_open r19
        have FR39_R3_0 := Lib.hid ((limR_firm _ _) _ _ _ _ _ qfR39 hI.back)
        clear qfR39
        have hBR3 := hI.below
        have HCR3 := hI.next (Ctx.ok_none hb0)
        clear hI
        go_upto_region 4 with (fail)
        refine box_plan0 (c := ⟨w, wR3, (fun _ => none)⟩) HCR3 [[], [(43, 0)], [(44, 1)], [(45, 2)], [(46, 3)], [(46, 3), (47, 4)], [(46, 3), (48, 5)], [(46, 3), (49, 6)]] [(43, 0), (44, 1), (45, 2), (46, 3), (47, 4), (48, 5), (49, 6), (50, 7)] [
            (fun v _ _ => v = .slice AvR38 5 cvR38),
            (fun v _ _ => v = .int .i64 5),
            (fun v _ _ => v = .bool false),
            (fun v _ _ => v = .bool false),
            (fun v _ _ => v = .slice AvR39 5 cvR39),
            (fun v _ _ => v = .int .i64 5),
            (fun v _ _ => v = .bool false),
            (fun v _ _ => v = .bool false)
          ] (fun _ => none) (by kernel_rfl) (by kernel_rfl) ⟨stab_eq, stab_eq, stab_eq, stab_eq, stab_eq, stab_eq, stab_eq, stab_eq, trivial⟩ ?steps ?fin
        case steps =>
          refine ⟨?_, ?_, ?_, ?_, ?_, ?_, ?_, ?_, trivial⟩
          · intro vs g w2 hI hF hR K hK
            simp only [Facts, fill, Act.put, z1, z2, z3, z4, z5, Nat.reduceAdd] at hF hR hK ⊢
            go_simp
            exact hK _ _ _ hI (Step.refl hI) rfl
          · intro vs g w2 hI hF hR K hK
            simp only [Facts, fill, Act.put, z1, z2, z3, z4, z5, Nat.reduceAdd] at hF hR hK ⊢
            obtain ⟨r0, -⟩ := hR
            generalize vs 0 = x0 at *
            subst r0
            go_simp
            exact hK _ _ _ hI (Step.refl hI) rfl
          · intro vs g w2 hI hF hR K hK
            simp only [Facts, fill, Act.put, z1, z2, z3, z4, z5, Nat.reduceAdd] at hF hR hK ⊢
            obtain ⟨r1, -⟩ := hR
            generalize vs 1 = x1 at *
            subst r1
            go_simp
            exact hK _ _ _ hI (Step.refl hI) rfl
          · intro vs g w2 hI hF hR K hK
            simp only [Facts, fill, Act.put, z1, z2, z3, z4, z5, Nat.reduceAdd] at hF hR hK ⊢
            obtain ⟨r2, -⟩ := hR
            generalize vs 2 = x2 at *
            subst r2
            go_simp
            exact hK _ _ _ hI (Step.refl hI) rfl
          · intro vs g w2 hI hF hR K hK
            simp only [Facts, fill, Act.put, z1, z2, z3, z4, z5, Nat.reduceAdd] at hF hR hK ⊢
            obtain ⟨r3, -⟩ := hR
            generalize vs 3 = x3 at *
            subst r3
            go_simp
            exact hK _ _ _ hI (Step.refl hI) rfl
          · intro vs g w2 hI hF hR K hK
            simp only [Facts, fill, Act.put, z1, z2, z3, z4, z5, Nat.reduceAdd] at hF hR hK ⊢
            obtain ⟨r3, r4, -⟩ := hR
            generalize vs 3 = x3, vs 4 = x4 at *
            subst r3 r4
            go_simp
            exact hK _ _ _ hI (Step.refl hI) rfl
          · intro vs g w2 hI hF hR K hK
            simp only [Facts, fill, Act.put, z1, z2, z3, z4, z5, Nat.reduceAdd] at hF hR hK ⊢
            obtain ⟨r3, r5, -⟩ := hR
            generalize vs 3 = x3, vs 5 = x5 at *
            subst r3 r5
            go_simp
            exact hK _ _ _ hI (Step.refl hI) rfl
          · intro vs g w2 hI hF hR K hK
            simp only [Facts, fill, Act.put, z1, z2, z3, z4, z5, Nat.reduceAdd] at hF hR hK ⊢
            obtain ⟨r3, r6, -⟩ := hR
            generalize vs 3 = x3, vs 6 = x6 at *
            subst r3 r6
            go_simp
            exact hK _ _ _ hI (Step.refl hI) rfl
        case fin =>
          intro vs g wR4 hI hR
          have r7 := hR 7 (by decide)
          simp only [fill, Act.put, z1, z2, z3, z4, z5] at r7 ⊢
          clear hR
          generalize vs 7 = x7 at *
          have Cp_R4_0 := Lib.hid (hI.cell Cp_R3_0.out (fun _ h => by cases h))
          have Cp_R4_1 := Lib.hid (hI.cell Cp_R3_1.out (fun _ h => by cases h))
          have Cp_R4_2 := Lib.hid (hI.cell Cp_R3_2.out (fun _ h => by cases h))
          have Cp_R4_3 := Lib.hid (hI.cell Cp_R3_3.out (fun _ h => by cases h))
          have Cp_R4_4 := Lib.hid (hI.cell Cp_R3_4.out (fun _ h => by cases h))
          have Cp_R4_5 := Lib.hid (hI.cell Cp_R3_5.out (fun _ h => by cases h))
          have Cp_R4_6 := Lib.hid (hI.cell Cp_R3_6.out (fun _ h => by cases h))
          have Cp_R4_7 := Lib.hid (hI.cell Cp_R3_7.out (fun _ h => by cases h))
          have Cq_R4_0 := Lib.hid (hI.cell Cq_R3_0.out (fun _ h => by cases h))
          have Cq_R4_1 := Lib.hid (hI.cell Cq_R3_1.out (fun _ h => by cases h))
          have Cq_R4_2 := Lib.hid (hI.cell Cq_R3_2.out (fun _ h => by cases h))
          have Cq_R4_3 := Lib.hid (hI.cell Cq_R3_3.out (fun _ h => by cases h))
          have Cq_R4_4 := Lib.hid (hI.cell Cq_R3_4.out (fun _ h => by cases h))
          have Cq_R4_5 := Lib.hid (hI.cell Cq_R3_5.out (fun _ h => by cases h))
          have Cq_R4_6 := Lib.hid (hI.cell Cq_R3_6.out (fun _ h => by cases h))
          have Cq_R4_7 := Lib.hid (hI.cell Cq_R3_7.out (fun _ h => by cases h))
          have FR38_R4_0 := Lib.hid ((limR_firm _ _) _ _ _ _ _ FR38_R3_0.out hI.carry)
          have FR39_R4_0 := Lib.hid ((limR_firm _ _) _ _ _ _ _ FR39_R3_0.out hI.carry)
          subst r7
          have hBR4 := hI.below
          have HCR4 := hI.next HCR3
          clear hI
          go_upto_region 8 with (fail)
          refine box_plan0 (c := ⟨w, wR4, (fun _ => none)⟩) HCR4 [[], [(62, 0)], [(63, 1)], [(63, 1), (64, 2)], [(63, 1)], [(63, 1), (66, 4)], [(63, 1), (65, 3), (67, 5)], [(63, 1), (68, 6)], [(63, 1), (69, 7)], [(63, 1), (70, 8)], [(71, 9)]] [(62, 0), (63, 1), (64, 2), (65, 3), (66, 4), (67, 5), (68, 6), (69, 7), (70, 8), (71, 9), (6, 10)] [
              (fun v _ _ => v = .bool true),
              (fun v _ _ => v = .bool true),
              (fun v _ _ => v = .slice AvR38 5 cvR38),
              NumG 22 (lc xa ya xb yb xc yc xd yd),
              (fun v _ _ => v = .slice AvR39 5 cvR39),
              NumG 22 (lc p0 p1 p2 p3 p4 p5 p6 p7),
              NumG 23 ((lc xa ya xb yb xc yc xd yd) + (lc p0 p1 p2 p3 p4 p5 p6 p7)),
              SignR ((lc xa ya xb yb xc yc xd yd) + (lc p0 p1 p2 p3 p4 p5 p6 p7)),
              (fun v _ _ => v = .bool true),
              (fun v _ _ => v = .bool true),
              (fun v _ _ => v = .bool true)
            ] (fun _ => none) (by kernel_rfl) (by kernel_rfl) ⟨stab_eq, stab_eq, stab_eq, stab_firm (numG_firm _ _), stab_eq, stab_firm (numG_firm _ _), stab_firm (numG_firm _ _), stab_firm (signR_firm _), stab_eq, stab_eq, stab_eq, trivial⟩ ?steps ?fin
          case steps =>
            refine ⟨?_, ?_, ?_, ?_, ?_, ?_, ?_, ?_, ?_, ?_, ?_, trivial⟩
            · intro vs g w2 hI hF hR K hK
              simp only [Facts, fill, Act.put, z1, z2, z3, z4, z5, Nat.reduceAdd] at hF hR hK ⊢
              go_simp
              refine (gAlive7 hI hw).mono ?_
              rintro e w3 ⟨v3, rfl, hv, hb⟩
              exact hK _ _ _ (hI.call hb) (Step.call hI hb) hv
            · intro vs g w2 hI hF hR K hK
              simp only [Facts, fill, Act.put, z1, z2, z3, z4, z5, Nat.reduceAdd] at hF hR hK ⊢
              obtain ⟨r0, -⟩ := hR
              generalize vs 0 = x0 at *
              subst r0
              go_simp
              exact hK _ _ _ hI (Step.refl hI) rfl
            · intro vs g w2 hI hF hR K hK
              simp only [Facts, fill, Act.put, z1, z2, z3, z4, z5, Nat.reduceAdd] at hF hR hK ⊢
              obtain ⟨r1, -⟩ := hR
              generalize vs 1 = x1 at *
              subst r1
              go_simp
              exact hK _ _ _ hI (Step.refl hI) rfl
            · intro vs g w2 hI hF hR K hK
              simp only [Facts, fill, Act.put, z1, z2, z3, z4, z5, Nat.reduceAdd] at hF hR hK ⊢
              obtain ⟨r1, r2, -⟩ := hR
              generalize vs 1 = x1, vs 2 = x2 at *
              subst r1 r2
              go_simp
              refine (gValueF hI ((limR_firm _ _) _ _ _ _ _ FR38_R4_0.out hI.keeps) (by decide) (lc_fit (by first | assumption | (unfold S; decide)) (by first | assumption | (unfold S; decide)) (by first | assumption | (unfold S; decide)) (by first | assumption | (unfold S; decide)) (by first | assumption | (unfold S; decide)) (by first | assumption | (unfold S; decide)) (by first | assumption | (unfold S; decide)) (by first | assumption | (unfold S; decide)))).mono ?_
              rintro e w3 ⟨v3, rfl, hv, hb⟩
              exact hK _ _ _ (hI.call hb) (Step.call hI hb) hv
            · intro vs g w2 hI hF hR K hK
              simp only [Facts, fill, Act.put, z1, z2, z3, z4, z5, Nat.reduceAdd] at hF hR hK ⊢
              obtain ⟨r1, -⟩ := hR
              generalize vs 1 = x1 at *
              subst r1
              go_simp
              exact hK _ _ _ hI (Step.refl hI) rfl
            · intro vs g w2 hI hF hR K hK
              simp only [Facts, fill, Act.put, z1, z2, z3, z4, z5, Nat.reduceAdd] at hF hR hK ⊢
              obtain ⟨r1, r4, -⟩ := hR
              generalize vs 1 = x1, vs 4 = x4 at *
              subst r1 r4
              go_simp
              refine (gValueF hI ((limR_firm _ _) _ _ _ _ _ FR39_R4_0.out hI.keeps) (by decide) (lc_fit (by first | assumption | (unfold S; decide)) (by first | assumption | (unfold S; decide)) (by first | assumption | (unfold S; decide)) (by first | assumption | (unfold S; decide)) (by first | assumption | (unfold S; decide)) (by first | assumption | (unfold S; decide)) (by first | assumption | (unfold S; decide)) (by first | assumption | (unfold S; decide)))).mono ?_
              rintro e w3 ⟨v3, rfl, hv, hb⟩
              exact hK _ _ _ (hI.call hb) (Step.call hI hb) hv
            · intro vs g w2 hI hF hR K hK
              simp only [Facts, fill, Act.put, z1, z2, z3, z4, z5, Nat.reduceAdd] at hF hR hK ⊢
              obtain ⟨r1, r3, r5, -⟩ := hR
              generalize vs 1 = x1, vs 3 = x3, vs 5 = x5 at *
              subst r1
              go_simp
              refine (gAdd hI r3 r5 (by decide) (by decide)).mono ?_
              rintro e w3 ⟨v3, rfl, hv, hb⟩
              exact hK _ _ _ (hI.call hb) (Step.call hI hb) hv
            · intro vs g w2 hI hF hR K hK
              simp only [Facts, fill, Act.put, z1, z2, z3, z4, z5, Nat.reduceAdd] at hF hR hK ⊢
              obtain ⟨r1, r6, -⟩ := hR
              generalize vs 1 = x1, vs 6 = x6 at *
              subst r1
              obtain ⟨s7, A7, n7, c7, rfl, hs7⟩ := numG_open r6
              go_simp
              exact hK _ _ _ hI (Step.refl hI) hs7
            · intro vs g w2 hI hF hR K hK
              simp only [Facts, fill, Act.put, z1, z2, z3, z4, z5, Nat.reduceAdd] at hF hR hK ⊢
              obtain ⟨r1, r7, -⟩ := hR
              generalize vs 1 = x1, vs 7 = x7 at *
              subst r1
              obtain ⟨s8, rfl, hs8⟩ := r7
              have hz := sign_is (x := (lc xa ya xb yb xc yc xd yd) + (lc p0 p1 p2 p3 p4 p5 p6 p7)) (k := 0) ⟨s8, rfl, hs8⟩ (by rw [Int.sign_eq_zero_iff_zero]; (rw [HNE.out HX.out]; omega))
              clear hs8
              go_simp
              exact hK _ _ _ hI (Step.refl hI) rfl
            · intro vs g w2 hI hF hR K hK
              simp only [Facts, fill, Act.put, z1, z2, z3, z4, z5, Nat.reduceAdd] at hF hR hK ⊢
              obtain ⟨r1, r8, -⟩ := hR
              generalize vs 1 = x1, vs 8 = x8 at *
              subst r1 r8
              go_simp
              exact hK _ _ _ hI (Step.refl hI) rfl
            · intro vs g w2 hI hF hR K hK
              simp only [Facts, fill, Act.put, z1, z2, z3, z4, z5, Nat.reduceAdd] at hF hR hK ⊢
              obtain ⟨r9, -⟩ := hR
              generalize vs 9 = x9 at *
              subst r9
              go_simp
              exact hK _ _ _ hI (Step.refl hI) rfl
          case fin =>
            intro vs g wR8 hI hR
            have r10 := hR 10 (by decide)
            simp only [fill, Act.put, z1, z2, z3, z4, z5] at r10 ⊢
            clear hR
            generalize vs 10 = x10 at *
            have Cp_R8_0 := Lib.hid (hI.cell Cp_R4_0.out (fun _ h => by cases h))
            have Cp_R8_1 := Lib.hid (hI.cell Cp_R4_1.out (fun _ h => by cases h))
            have Cp_R8_2 := Lib.hid (hI.cell Cp_R4_2.out (fun _ h => by cases h))
            have Cp_R8_3 := Lib.hid (hI.cell Cp_R4_3.out (fun _ h => by cases h))
            have Cp_R8_4 := Lib.hid (hI.cell Cp_R4_4.out (fun _ h => by cases h))
            have Cp_R8_5 := Lib.hid (hI.cell Cp_R4_5.out (fun _ h => by cases h))
            have Cp_R8_6 := Lib.hid (hI.cell Cp_R4_6.out (fun _ h => by cases h))
            have Cp_R8_7 := Lib.hid (hI.cell Cp_R4_7.out (fun _ h => by cases h))
            have Cq_R8_0 := Lib.hid (hI.cell Cq_R4_0.out (fun _ h => by cases h))
            have Cq_R8_1 := Lib.hid (hI.cell Cq_R4_1.out (fun _ h => by cases h))
            have Cq_R8_2 := Lib.hid (hI.cell Cq_R4_2.out (fun _ h => by cases h))
            have Cq_R8_3 := Lib.hid (hI.cell Cq_R4_3.out (fun _ h => by cases h))
            have Cq_R8_4 := Lib.hid (hI.cell Cq_R4_4.out (fun _ h => by cases h))
            have Cq_R8_5 := Lib.hid (hI.cell Cq_R4_5.out (fun _ h => by cases h))
            have Cq_R8_6 := Lib.hid (hI.cell Cq_R4_6.out (fun _ h => by cases h))
            have Cq_R8_7 := Lib.hid (hI.cell Cq_R4_7.out (fun _ h => by cases h))
            have FR38_R8_0 := Lib.hid ((limR_firm _ _) _ _ _ _ _ FR38_R4_0.out hI.carry)
            have FR39_R8_0 := Lib.hid ((limR_firm _ _) _ _ _ _ _ FR39_R4_0.out hI.carry)
            subst r10
            have hBR8 := hI.below
            have HCR8 := hI.next HCR4
            clear hI
            go_wp2
            go_ret
            exact ⟨rfl, hBR8⟩
end Go.Proofs.YtckeognbfdladaaDoor
