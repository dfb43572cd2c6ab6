/-
  Packed texts: CircleC.
-/
import Derived.Test.YthmkllpdkcmccaaGreatDoorP7
namespace Go.Proofs.YthmkllpdkcmccaaGreatDoor
open Go.RowKit
set_option maxRecDepth 100000
set_option linter.unusedVariables false
set_option linter.unusedSimpArgs false

/-- The three rows of the determinant. -/
def RowL (a b c d e f : Int) (v : Value) (g : Gh) (w : World) : Prop :=
  ∃ P0 m0 Q0 n0 P1 m1 Q1 n1 P2 m2 Q2 n2, v = .agg #[.slice P0 2 m0, .slice Q0 2 n0, .slice P1 2 m1, .slice Q1 2 n1, .slice P2 2 m2, .slice Q2 2 n2] ∧ VecL a b (.agg #[.slice P0 2 m0, .slice Q0 2 n0]) g w ∧ VecL c d (.agg #[.slice P1 2 m1, .slice Q1 2 n1]) g w ∧ VecL e f (.agg #[.slice P2 2 m2, .slice Q2 2 n2]) g w
theorem rowL_firm (a b c d e f : Int) : Firm (RowL a b c d e f) := fun v g w g' w' h hk => by
  obtain ⟨P0, m0, Q0, n0, P1, m1, Q1, n1, P2, m2, Q2, n2, e, h0, h1, h2⟩ := h
  exact ⟨P0, m0, Q0, n0, P1, m1, Q1, n1, P2, m2, Q2, n2, e, vecL_firm _ _ _ g w g' w' h0 hk, vecL_firm _ _ _ g w g' w' h1 hk, vecL_firm _ _ _ g w g' w' h2 hk⟩
theorem rowL_open {a b c d e f : Int} {v : Value} {g : Gh} {w : World} (h : RowL a b c d e f v g w) : ∃ P0 m0 Q0 n0 P1 m1 Q1 n1 P2 m2 Q2 n2, v = .agg #[.slice P0 2 m0, .slice Q0 2 n0, .slice P1 2 m1, .slice Q1 2 n1, .slice P2 2 m2, .slice Q2 2 n2] := by
  obtain ⟨P0, m0, Q0, n0, P1, m1, Q1, n1, P2, m2, Q2, n2, e, _⟩ := h
  exact ⟨P0, m0, Q0, n0, P1, m1, Q1, n1, P2, m2, Q2, n2, e⟩
theorem rowL_0 {a b c d e f : Int} {p0 p1 p2 p3 p4 p5 : Value} {g : Gh} {w : World} (h : RowL a b c d e f (.agg #[p0, p1, p2, p3, p4, p5]) g w) : VecL a b (.agg #[p0, p1]) g w := by
  obtain ⟨P0, m0, Q0, n0, P1, m1, Q1, n1, P2, m2, Q2, n2, e, h0, h1, h2⟩ := h
  injection e with e
  have e1 := congrArg (fun s : Array Value => s[0]?) e
  have e2 := congrArg (fun s : Array Value => s[1]?) e
  simp at e1 e2
  rw [e1, e2]; exact h0
theorem rowL_1 {a b c d e f : Int} {p0 p1 p2 p3 p4 p5 : Value} {g : Gh} {w : World} (h : RowL a b c d e f (.agg #[p0, p1, p2, p3, p4, p5]) g w) : VecL c d (.agg #[p2, p3]) g w := by
  obtain ⟨P0, m0, Q0, n0, P1, m1, Q1, n1, P2, m2, Q2, n2, e, h0, h1, h2⟩ := h
  injection e with e
  have e1 := congrArg (fun s : Array Value => s[2]?) e
  have e2 := congrArg (fun s : Array Value => s[3]?) e
  simp at e1 e2
  rw [e1, e2]; exact h1
theorem rowL_2 {a b c d e f : Int} {p0 p1 p2 p3 p4 p5 : Value} {g : Gh} {w : World} (h : RowL a b c d e f (.agg #[p0, p1, p2, p3, p4, p5]) g w) : VecL e f (.agg #[p4, p5]) g w := by
  obtain ⟨P0, m0, Q0, n0, P1, m1, Q1, n1, P2, m2, Q2, n2, e, h0, h1, h2⟩ := h
  injection e with e
  have e1 := congrArg (fun s : Array Value => s[4]?) e
  have e2 := congrArg (fun s : Array Value => s[5]?) e
  simp at e1 e2
  rw [e1, e2]; exact h2
theorem rowL_mk {a b c d e f : Int} {P0 Q0 P1 Q1 P2 Q2 : Option Addr} {m0 n0 m1 n1 m2 n2 : Nat} {g : Gh} {w : World} (h0 : VecL a b (.agg #[.slice P0 2 m0, .slice Q0 2 n0]) g w) (h1 : VecL c d (.agg #[.slice P1 2 m1, .slice Q1 2 n1]) g w) (h2 : VecL e f (.agg #[.slice P2 2 m2, .slice Q2 2 n2]) g w) : RowL a b c d e f (.agg #[.slice P0 2 m0, .slice Q0 2 n0, .slice P1 2 m1, .slice Q1 2 n1, .slice P2 2 m2, .slice Q2 2 n2]) g w := ⟨P0, m0, Q0, n0, P1, m1, Q1, n1, P2, m2, Q2, n2, rfl, h0, h1, h2⟩
theorem box6' (w : World) (a0 a1 a2 a3 a4 a5 : Value) (t : TypeId) : HasBox (w.alloc (.cells #[a0, a1, a2, a3, a4, a5] t)) w.heap.size 6 := by
  intro i hi
  match i, hi with
  | 0, _ => exact ⟨⟨a0, by simp [go_sem]⟩, by simp [go_sem]⟩
  | 1, _ => exact ⟨⟨a1, by simp [go_sem]⟩, by simp [go_sem]⟩
  | 2, _ => exact ⟨⟨a2, by simp [go_sem]⟩, by simp [go_sem]⟩
  | 3, _ => exact ⟨⟨a3, by simp [go_sem]⟩, by simp [go_sem]⟩
  | 4, _ => exact ⟨⟨a4, by simp [go_sem]⟩, by simp [go_sem]⟩
  | 5, _ => exact ⟨⟨a5, by simp [go_sem]⟩, by simp [go_sem]⟩
theorem cells6 {w : World} {q : Nat} {u0 u1 u2 u3 u4 u5 : Value} (h0 : w.cell? ⟨q, 0, none⟩ = some u0) (h1 : w.cell? ⟨q, 1, none⟩ = some u1) (h2 : w.cell? ⟨q, 2, none⟩ = some u2) (h3 : w.cell? ⟨q, 3, none⟩ = some u3) (h4 : w.cell? ⟨q, 4, none⟩ = some u4) (h5 : w.cell? ⟨q, 5, none⟩ = some u5) (v0 v1 v2 v3 v4 v5 : Value) :
    CellsAt ((((((w.setCell ⟨q, 0, none⟩ v0).setCell ⟨q, 1, none⟩ v1).setCell ⟨q, 2, none⟩ v2).setCell ⟨q, 3, none⟩ v3).setCell ⟨q, 4, none⟩ v4).setCell ⟨q, 5, none⟩ v5) q [v0, v1, v2, v3, v4, v5] := by
  have o : ∀ (w : World) (i j : Nat) (v : Value), i ≠ j → (w.setCell ⟨q, i, none⟩ v).cell? ⟨q, j, none⟩ = w.cell? ⟨q, j, none⟩ := fun w i j v hne => World.cell?_setCell_other _ _ _ _ (fun e => hne (by injection e))
  intro i v h
  match i, h with
  | 0, h => simp at h; subst h; rw [o _ 5 0 _ (by decide), o _ 4 0 _ (by decide), o _ 3 0 _ (by decide), o _ 2 0 _ (by decide), o _ 1 0 _ (by decide)]; exact World.cell?_setCell_same _ _ _ h0
  | 1, h => simp at h; subst h; rw [o _ 5 1 _ (by decide), o _ 4 1 _ (by decide), o _ 3 1 _ (by decide), o _ 2 1 _ (by decide)]; exact World.cell?_setCell_same _ _ _ ((o _ 0 1 _ (by decide)).trans h1)
  | 2, h => simp at h; subst h; rw [o _ 5 2 _ (by decide), o _ 4 2 _ (by decide), o _ 3 2 _ (by decide)]; exact World.cell?_setCell_same _ _ _ ((o _ 1 2 _ (by decide)).trans ((o _ 0 2 _ (by decide)).trans h2))
  | 3, h => simp at h; subst h; rw [o _ 5 3 _ (by decide), o _ 4 3 _ (by decide)]; exact World.cell?_setCell_same _ _ _ ((o _ 2 3 _ (by decide)).trans ((o _ 1 3 _ (by decide)).trans ((o _ 0 3 _ (by decide)).trans h3)))
  | 4, h => simp at h; subst h; rw [o _ 5 4 _ (by decide)]; exact World.cell?_setCell_same _ _ _ ((o _ 3 4 _ (by decide)).trans ((o _ 2 4 _ (by decide)).trans ((o _ 1 4 _ (by decide)).trans ((o _ 0 4 _ (by decide)).trans h4))))
  | 5, h => simp at h; subst h; exact World.cell?_setCell_same _ _ _ ((o _ 4 5 _ (by decide)).trans ((o _ 3 5 _ (by decide)).trans ((o _ 2 5 _ (by decide)).trans ((o _ 1 5 _ (by decide)).trans ((o _ 0 5 _ (by decide)).trans h5)))))
theorem con_fit {p q r s t u : Int} (hp : -18446744073709551615 ≤ p ∧ p ≤ 18446744073709551615) (hq : -18446744073709551615 ≤ q ∧ q ≤ 18446744073709551615) (hr : -18446744073709551615 ≤ r ∧ r ≤ 18446744073709551615) (hs : -18446744073709551615 ≤ s ∧ s ≤ 18446744073709551615) (ht : -18446744073709551615 ≤ t ∧ t ≤ 18446744073709551615) (hu : -18446744073709551615 ≤ u ∧ u ≤ 18446744073709551615) : Fit 8 ((p * p + q * q) * (r * u - s * t)) := by
  have h1 := prod_bd hp hp
  have h2 := prod_bd hq hq
  have h3 := prod_bd hr hu
  have h4 := prod_bd hs ht
  have n1 : (p * p + q * q).natAbs ≤ 2 ^ 129 := by omega
  have n2 : (r * u - s * t).natAbs ≤ 2 ^ 129 := by omega
  have n3 := Nat.mul_le_mul n1 n2
  rw [← Int.natAbs_mul] at n3
  have e : M 8 = 13407807929942597099574024998205846127479365820592393377723561443721764030073546976801874298166903427690031858186486050853753882811946569946433649006084096 := rfl
  unfold Fit
  omega
theorem con_lc (xa ya xb yb xc yc xd yd : Int) : ((0 + (((xa - xd) * (xa - xd) + (ya - yd) * (ya - yd)) * ((xb - xd) * (yc - yd) - (yb - yd) * (xc - xd)))) + (((xb - xd) * (xb - xd) + (yb - yd) * (yb - yd)) * ((xc - xd) * (ya - yd) - (yc - yd) * (xa - xd)))) + (((xc - xd) * (xc - xd) + (yc - yd) * (yc - yd)) * ((xa - xd) * (yb - yd) - (ya - yd) * (xb - xd))) = lc xa ya xb yb xc yc xd yd := by rw [lc_vec]; unfold lv; grind
theorem limR_cast {n : Nat} {x y : Int} {v : Value} {g : Gh} {w : World} (e : x = y) (h : LimR n x v g w) : LimR n y v g w := e ▸ h
set_option maxRecDepth 100000 in
set_option maxHeartbeats 4000000 in
theorem gContr00 {c0 : Ctx} {g0 : Gh} {w : World} {xa ya xb yb xc yc xd yd : Int} {P0 Q0 P1 Q1 P2 Q2 : Option Addr} {m0 n0 m1 n1 m2 n2 : Nat} (hI0 : RInv c0 g0 w) (hw : Wts c0.W0) (qa : RowL (xa - xd) (ya - yd) (xb - xd) (yb - yd) (xc - xd) (yc - yd) (.agg #[.slice P0 2 m0, .slice Q0 2 n0, .slice P1 2 m1, .slice Q1 2 n1, .slice P2 2 m2, .slice Q2 2 n2]) g0 w) (sxa : S xa) (sya : S ya) (sxb : S xb) (syb : S yb) (sxc : S xc) (syc : S yc) (sxd : S xd) (syd : S yd) :
    Calls Tryz.prog 111 #[.agg #[.slice P0 2 m0, .slice Q0 2 n0, .slice P1 2 m1, .slice Q1 2 n1, .slice P2 2 m2, .slice Q2 2 n2], .int .i64 0] w (Gives (LimR 5 (((xa - xd) * (xa - xd) + (ya - yd) * (ya - yd)) * ((xb - xd) * (yc - yd) - (yb - yd) * (xc - xd)))) g0 w) := by
  have hw1 := hw.below hI0.below
  obtain ⟨W, hW⟩ : ∃ W, W = w.alloc (.cells #[.slice P0 2 m0, .slice Q0 2 n0, .slice P1 2 m1, .slice Q1 2 n1, .slice P2 2 m2, .slice Q2 2 n2] 163) := ⟨_, rfl⟩
  have hb0 : Below w.heap.size w W := by rw [hW]; exact ((Below.refl _ _).alloc (Nat.le_refl _) _)
  have HOK := Ctx.ok_lift0 hI0 hb0
  have C0_W_0 := Lib.hid (show W.cell? ⟨w.heap.size, 0, none⟩ = some (.slice P0 2 m0) by rw [hW]; simp [go_sem])
  have C0_W_1 := Lib.hid (show W.cell? ⟨w.heap.size, 1, none⟩ = some (.slice Q0 2 n0) by rw [hW]; simp [go_sem])
  have C0_W_2 := Lib.hid (show W.cell? ⟨w.heap.size, 2, none⟩ = some (.slice P1 2 m1) by rw [hW]; simp [go_sem])
  have C0_W_3 := Lib.hid (show W.cell? ⟨w.heap.size, 3, none⟩ = some (.slice Q1 2 n1) by rw [hW]; simp [go_sem])
  have C0_W_4 := Lib.hid (show W.cell? ⟨w.heap.size, 4, none⟩ = some (.slice P2 2 m2) by rw [hW]; simp [go_sem])
  have C0_W_5 := Lib.hid (show W.cell? ⟨w.heap.size, 5, none⟩ = some (.slice Q2 2 n2) by rw [hW]; simp [go_sem])
  have Fu0_W_02 := Lib.hid ((vecL_firm _ _) _ _ _ _ _ (rowL_0 qa) (keeps_lift0 hb0))
  have Fu1_W_22 := Lib.hid ((vecL_firm _ _) _ _ _ _ _ (rowL_1 qa) (keeps_lift0 hb0))
  have Fu2_W_42 := Lib.hid ((vecL_firm _ _) _ _ _ _ _ (rowL_2 qa) (keeps_lift0 hb0))
  have HO0 : Off (lift0 g0) (w.heap.size) := lift0_off (hI0.offs _ (by omega))
  have HW := Lib.hid hW
  clear hW
  go_enter Tryz.func111, Tryz.ntmps111
  go_upto_region 1 with (fail)
  rw [← HW.out]
  refine box_plan (c := ⟨w, W, (lift0 g0)⟩) HOK (by kernel_rfl) [[], [(6, 0)], [(7, 1)], [(8, 2)], [(9, 3)], [], [(11, 5)], [(12, 6)], [(13, 7)], [(14, 8)], [(10, 4), (15, 9)], [(16, 10)]] [(6, 0), (7, 1), (8, 2), (9, 3), (10, 4), (11, 5), (12, 6), (13, 7), (14, 8), (15, 9), (16, 10), (5, 11)] [
      (fun v _ _ => v = .int .i64 0),
      (fun v _ _ => v = .int .i64 1),
      (fun v _ _ => v = .int .i64 1),
      (fun v _ _ => v = .pointer (some ⟨w.heap.size, 2, none⟩)),
      (fun v _ _ => v = .agg #[.slice P1 2 m1, .slice Q1 2 n1]),
      (fun v _ _ => v = .int .i64 0),
      (fun v _ _ => v = .int .i64 2),
      (fun v _ _ => v = .int .i64 2),
      (fun v _ _ => v = .pointer (some ⟨w.heap.size, 4, none⟩)),
      (fun v _ _ => v = .agg #[.slice P2 2 m2, .slice Q2 2 n2]),
      LimR 4 ((xb - xd) * (yc - yd) - (yb - yd) * (xc - xd)),
      LimR 4 ((xb - xd) * (yc - yd) - (yb - yd) * (xc - xd))
    ] (fun _ => none) (by kernel_rfl) (by kernel_rfl) ⟨stab_eq, stab_eq, stab_eq, stab_eq, stab_eq, stab_eq, stab_eq, stab_eq, stab_eq, stab_eq, stab_firm (limR_firm _ _), stab_firm (limR_firm _ _), trivial⟩ ?steps ?fin
  case steps =>
    refine ⟨?_, ?_, ?_, ?_, ?_, ?_, ?_, ?_, ?_, ?_, ?_, ?_, trivial⟩
    · intro vs g w2 hI hF hR K hK
      simp only [Facts, fill, Act.put, z1, z2, z3, z4, z5, Nat.reduceAdd] at hF hR hK ⊢
      go_simp
      exact hK _ _ _ hI (Step.refl hI) rfl
    · intro vs g w2 hI hF hR K hK
      simp only [Facts, fill, Act.put, z1, z2, z3, z4, z5, Nat.reduceAdd] at hF hR hK ⊢
      obtain ⟨r0, -⟩ := hR
      generalize vs 0 = x0 at *
      subst r0
      go_simp
      exact hK _ _ _ hI (Step.refl hI) rfl
    · intro vs g w2 hI hF hR K hK
      simp only [Facts, fill, Act.put, z1, z2, z3, z4, z5, Nat.reduceAdd] at hF hR hK ⊢
      obtain ⟨r1, -⟩ := hR
      generalize vs 1 = x1 at *
      subst r1
      go_simp
      exact hK _ _ _ hI (Step.refl hI) rfl
    · intro vs g w2 hI hF hR K hK
      simp only [Facts, fill, Act.put, z1, z2, z3, z4, z5, Nat.reduceAdd] at hF hR hK ⊢
      obtain ⟨r2, -⟩ := hR
      generalize vs 2 = x2 at *
      subst r2
      go_simp
      exact hK _ _ _ hI (Step.refl hI) rfl
    · intro vs g w2 hI hF hR K hK
      simp only [Facts, fill, Act.put, z1, z2, z3, z4, z5, Nat.reduceAdd] at hF hR hK ⊢
      obtain ⟨r3, -⟩ := hR
      generalize vs 3 = x3 at *
      subst r3
      have k0 := hI.cell C0_W_2.out (by first | exact HO0 | assumption)
      have k1 := hI.cell C0_W_3.out (by first | exact HO0 | assumption)
      go_simp
      exact hK _ _ _ hI (Step.refl hI) rfl
    · intro vs g w2 hI hF hR K hK
      simp only [Facts, fill, Act.put, z1, z2, z3, z4, z5, Nat.reduceAdd] at hF hR hK ⊢
      go_simp
      exact hK _ _ _ hI (Step.refl hI) rfl
    · intro vs g w2 hI hF hR K hK
      simp only [Facts, fill, Act.put, z1, z2, z3, z4, z5, Nat.reduceAdd] at hF hR hK ⊢
      obtain ⟨r5, -⟩ := hR
      generalize vs 5 = x5 at *
      subst r5
      go_simp
      exact hK _ _ _ hI (Step.refl hI) rfl
    · intro vs g w2 hI hF hR K hK
      simp only [Facts, fill, Act.put, z1, z2, z3, z4, z5, Nat.reduceAdd] at hF hR hK ⊢
      obtain ⟨r6, -⟩ := hR
      generalize vs 6 = x6 at *
      subst r6
      go_simp
      exact hK _ _ _ hI (Step.refl hI) rfl
    · intro vs g w2 hI hF hR K hK
      simp only [Facts, fill, Act.put, z1, z2, z3, z4, z5, Nat.reduceAdd] at hF hR hK ⊢
      obtain ⟨r7, -⟩ := hR
      generalize vs 7 = x7 at *
      subst r7
      go_simp
      exact hK _ _ _ hI (Step.refl hI) rfl
    · intro vs g w2 hI hF hR K hK
      simp only [Facts, fill, Act.put, z1, z2, z3, z4, z5, Nat.reduceAdd] at hF hR hK ⊢
      obtain ⟨r8, -⟩ := hR
      generalize vs 8 = x8 at *
      subst r8
      have k0 := hI.cell C0_W_4.out (by first | exact HO0 | assumption)
      have k1 := hI.cell C0_W_5.out (by first | exact HO0 | assumption)
      go_simp
      exact hK _ _ _ hI (Step.refl hI) rfl
    · intro vs g w2 hI hF hR K hK
      simp only [Facts, fill, Act.put, z1, z2, z3, z4, z5, Nat.reduceAdd] at hF hR hK ⊢
      obtain ⟨r4, r9, -⟩ := hR
      generalize vs 4 = x4, vs 9 = x9 at *
      subst r4 r9
      go_simp
      refine (gCross hI hw1 ((vecL_firm _ _) _ _ _ _ _ Fu1_W_22.out hI.keeps) ((vecL_firm _ _) _ _ _ _ _ Fu2_W_42.out hI.keeps) (by first | exact HE0.out | exact HE1.out | exact HE2.out | exact HE3.out | exact Fit.sv (by repeat first | exact S.diff (by first | assumption | (unfold S; decide)) (by first | assumption | (unfold S; decide)) | apply Fit.neg | (unfold Fit; decide +kernel))) (by first | exact HE0.out | exact HE1.out | exact HE2.out | exact HE3.out | exact Fit.sv (by repeat first | exact S.diff (by first | assumption | (unfold S; decide)) (by first | assumption | (unfold S; decide)) | apply Fit.neg | (unfold Fit; decide +kernel))) (by first | exact HE0.out | exact HE1.out | exact HE2.out | exact HE3.out | exact Fit.sv (by repeat first | exact S.diff (by first | assumption | (unfold S; decide)) (by first | assumption | (unfold S; decide)) | apply Fit.neg | (unfold Fit; decide +kernel))) (by first | exact HE0.out | exact HE1.out | exact HE2.out | exact HE3.out | exact Fit.sv (by repeat first | exact S.diff (by first | assumption | (unfold S; decide)) (by first | assumption | (unfold S; decide)) | apply Fit.neg | (unfold Fit; decide +kernel)))).mono ?_
      rintro e w3 ⟨v3, rfl, hv, hb⟩
      exact hK _ _ _ (hI.call hb) (Step.call hI hb) hv
    · intro vs g w2 hI hF hR K hK
      simp only [Facts, fill, Act.put, z1, z2, z3, z4, z5, Nat.reduceAdd] at hF hR hK ⊢
      obtain ⟨r10, -⟩ := hR
      generalize vs 10 = x10 at *
      go_simp
      exact hK _ _ _ hI (Step.refl hI) r10
  case fin =>
    intro vs g wR1 hI hR
    have r11 := hR 11 (by decide)
    simp only [fill, Act.put, z1, z2, z3, z4, z5] at r11 ⊢
    clear hR
    generalize vs 11 = x11 at *
    have C0_R1_0 := Lib.hid (hI.cell C0_W_0.out (by first | exact HO0 | assumption))
    have C0_R1_1 := Lib.hid (hI.cell C0_W_1.out (by first | exact HO0 | assumption))
    have C0_R1_2 := Lib.hid (hI.cell C0_W_2.out (by first | exact HO0 | assumption))
    have C0_R1_3 := Lib.hid (hI.cell C0_W_3.out (by first | exact HO0 | assumption))
    have C0_R1_4 := Lib.hid (hI.cell C0_W_4.out (by first | exact HO0 | assumption))
    have C0_R1_5 := Lib.hid (hI.cell C0_W_5.out (by first | exact HO0 | assumption))
    have Fu0_R1_02 := Lib.hid ((vecL_firm _ _) _ _ _ _ _ Fu0_W_02.out hI.carry)
    have Fu1_R1_22 := Lib.hid ((vecL_firm _ _) _ _ _ _ _ Fu1_W_22.out hI.carry)
    have Fu2_R1_42 := Lib.hid ((vecL_firm _ _) _ _ _ _ _ Fu2_W_42.out hI.carry)
    have qfR15 := r11
    obtain ⟨AvR15, cvR15, rfl⟩ := limR_open r11
    have FR15_R1_0 := Lib.hid ((limR_firm _ _) _ _ _ _ _ qfR15 hI.back)
    clear qfR15
    have hBR1 := hI.below
    have HCR1 := hI.next HOK
    clear hI
    go_upto_region 2 with (fail)
    refine box_plan0 (c := ⟨w, wR1, (lift0 g0)⟩) HCR1 [[], [(17, 0)], [(18, 1)], [(19, 2)], [], [(20, 3), (21, 4)], [(22, 5)], [(23, 6)]] [(17, 0), (18, 1), (19, 2), (20, 3), (21, 4), (22, 5), (23, 6), (4, 7)] [
        (fun v _ _ => v = .int .i64 0),
        (fun v _ _ => v = .pointer (some ⟨w.heap.size, 0, none⟩)),
        (fun v _ _ => v = .agg #[.slice P0 2 m0, .slice Q0 2 n0]),
        LimR 4 ((xa - xd) * (xa - xd) + (ya - yd) * (ya - yd)),
        (fun v _ _ => v = .slice AvR15 4 cvR15),
        LimR 8 (((xa - xd) * (xa - xd) + (ya - yd) * (ya - yd)) * ((xb - xd) * (yc - yd) - (yb - yd) * (xc - xd))),
        LimR 5 (((xa - xd) * (xa - xd) + (ya - yd) * (ya - yd)) * ((xb - xd) * (yc - yd) - (yb - yd) * (xc - xd))),
        LimR 5 (((xa - xd) * (xa - xd) + (ya - yd) * (ya - yd)) * ((xb - xd) * (yc - yd) - (yb - yd) * (xc - xd)))
      ] (fun _ => none) (by kernel_rfl) (by kernel_rfl) ⟨stab_eq, stab_eq, stab_eq, stab_firm (limR_firm _ _), stab_eq, stab_firm (limR_firm _ _), stab_firm (limR_firm _ _), stab_firm (limR_firm _ _), trivial⟩ ?steps ?fin
    case steps =>
      refine ⟨?_, ?_, ?_, ?_, ?_, ?_, ?_, ?_, trivial⟩
      · intro vs g w2 hI hF hR K hK
        simp only [Facts, fill, Act.put, z1, z2, z3, z4, z5, Nat.reduceAdd] at hF hR hK ⊢
        go_simp
        exact hK _ _ _ hI (Step.refl hI) rfl
      · intro vs g w2 hI hF hR K hK
        simp only [Facts, fill, Act.put, z1, z2, z3, z4, z5, Nat.reduceAdd] at hF hR hK ⊢
        obtain ⟨r0, -⟩ := hR
        generalize vs 0 = x0 at *
        subst r0
        go_simp
        exact hK _ _ _ hI (Step.refl hI) rfl
      · intro vs g w2 hI hF hR K hK
        simp only [Facts, fill, Act.put, z1, z2, z3, z4, z5, Nat.reduceAdd] at hF hR hK ⊢
        obtain ⟨r1, -⟩ := hR
        generalize vs 1 = x1 at *
        subst r1
        have k0 := hI.cell C0_R1_0.out (by first | exact HO0 | assumption)
        have k1 := hI.cell C0_R1_1.out (by first | exact HO0 | assumption)
        go_simp
        exact hK _ _ _ hI (Step.refl hI) rfl
      · intro vs g w2 hI hF hR K hK
        simp only [Facts, fill, Act.put, z1, z2, z3, z4, z5, Nat.reduceAdd] at hF hR hK ⊢
        obtain ⟨r2, -⟩ := hR
        generalize vs 2 = x2 at *
        subst r2
        go_simp
        refine (gNorm hI hw1 ((vecL_firm _ _) _ _ _ _ _ Fu0_R1_02.out hI.keeps) (by first | exact HE0.out | exact HE1.out | exact HE2.out | exact HE3.out | exact Fit.sv (by repeat first | exact S.diff (by first | assumption | (unfold S; decide)) (by first | assumption | (unfold S; decide)) | apply Fit.neg | (unfold Fit; decide +kernel))) (by first | exact HE0.out | exact HE1.out | exact HE2.out | exact HE3.out | exact Fit.sv (by repeat first | exact S.diff (by first | assumption | (unfold S; decide)) (by first | assumption | (unfold S; decide)) | apply Fit.neg | (unfold Fit; decide +kernel)))).mono ?_
        rintro e w3 ⟨v3, rfl, hv, hb⟩
        exact hK _ _ _ (hI.call hb) (Step.call hI hb) hv
      · intro vs g w2 hI hF hR K hK
        simp only [Facts, fill, Act.put, z1, z2, z3, z4, z5, Nat.reduceAdd] at hF hR hK ⊢
        go_simp
        exact hK _ _ _ hI (Step.refl hI) rfl
      · intro vs g w2 hI hF hR K hK
        simp only [Facts, fill, Act.put, z1, z2, z3, z4, z5, Nat.reduceAdd] at hF hR hK ⊢
        obtain ⟨r3, r4, -⟩ := hR
        generalize vs 3 = x3, vs 4 = x4 at *
        subst r4
        go_simp
        refine (gLimMul hI hw1 r3 ((limR_firm _ _) _ _ _ _ _ FR15_R1_0.out hI.keeps) (Fit.sv (by first | (refine fit4_sub ?_ ?_ ?_ ?_ <;> repeat first | exact S.diff (by first | assumption | (unfold S; decide)) (by first | assumption | (unfold S; decide)) | apply Fit.neg) | (refine fit4_add ?_ ?_ ?_ ?_ <;> repeat first | exact S.diff (by first | assumption | (unfold S; decide)) (by first | assumption | (unfold S; decide)) | apply Fit.neg))) (Fit.sv (by first | (refine fit4_sub ?_ ?_ ?_ ?_ <;> repeat first | exact S.diff (by first | assumption | (unfold S; decide)) (by first | assumption | (unfold S; decide)) | apply Fit.neg) | (refine fit4_add ?_ ?_ ?_ ?_ <;> repeat first | exact S.diff (by first | assumption | (unfold S; decide)) (by first | assumption | (unfold S; decide)) | apply Fit.neg))) (by decide) (by decide) (by decide) rfl).mono ?_
        rintro e w3 ⟨v3, rfl, hv, hb⟩
        exact hK _ _ _ (hI.call hb) (Step.call hI hb) hv
      · intro vs g w2 hI hF hR K hK
        simp only [Facts, fill, Act.put, z1, z2, z3, z4, z5, Nat.reduceAdd] at hF hR hK ⊢
        obtain ⟨r5, -⟩ := hR
        generalize vs 5 = x5 at *
        go_simp
        refine (gLimExtend (m := 5) hI hw1 r5 (Fit.sv (con_fit (diff_bd (by first | assumption | (unfold S; decide)) (by first | assumption | (unfold S; decide))) (diff_bd (by first | assumption | (unfold S; decide)) (by first | assumption | (unfold S; decide))) (diff_bd (by first | assumption | (unfold S; decide)) (by first | assumption | (unfold S; decide))) (diff_bd (by first | assumption | (unfold S; decide)) (by first | assumption | (unfold S; decide))) (diff_bd (by first | assumption | (unfold S; decide)) (by first | assumption | (unfold S; decide))) (diff_bd (by first | assumption | (unfold S; decide)) (by first | assumption | (unfold S; decide))))) (by decide) (by decide) (by decide) (by decide)).mono ?_
        rintro e w3 ⟨v3, rfl, hv, hb⟩
        exact hK _ _ _ (hI.call hb) (Step.call hI hb) hv
      · intro vs g w2 hI hF hR K hK
        simp only [Facts, fill, Act.put, z1, z2, z3, z4, z5, Nat.reduceAdd] at hF hR hK ⊢
        obtain ⟨r6, -⟩ := hR
        generalize vs 6 = x6 at *
        go_simp
        exact hK _ _ _ hI (Step.refl hI) r6
    case fin =>
      intro vs g wR2 hI hR
      have r7 := hR 7 (by decide)
      simp only [fill, Act.put, z1, z2, z3, z4, z5] at r7 ⊢
      clear hR
      generalize vs 7 = x7 at *
      have C0_R2_0 := Lib.hid (hI.cell C0_R1_0.out (by first | exact HO0 | assumption))
      have C0_R2_1 := Lib.hid (hI.cell C0_R1_1.out (by first | exact HO0 | assumption))
      have C0_R2_2 := Lib.hid (hI.cell C0_R1_2.out (by first | exact HO0 | assumption))
      have C0_R2_3 := Lib.hid (hI.cell C0_R1_3.out (by first | exact HO0 | assumption))
      have C0_R2_4 := Lib.hid (hI.cell C0_R1_4.out (by first | exact HO0 | assumption))
      have C0_R2_5 := Lib.hid (hI.cell C0_R1_5.out (by first | exact HO0 | assumption))
      have Fu0_R2_02 := Lib.hid ((vecL_firm _ _) _ _ _ _ _ Fu0_R1_02.out hI.carry)
      have Fu1_R2_22 := Lib.hid ((vecL_firm _ _) _ _ _ _ _ Fu1_R1_22.out hI.carry)
      have Fu2_R2_42 := Lib.hid ((vecL_firm _ _) _ _ _ _ _ Fu2_R1_42.out hI.carry)
      have FR15_R2_0 := Lib.hid ((limR_firm _ _) _ _ _ _ _ FR15_R1_0.out hI.carry)
      have qfR24 := r7
      obtain ⟨AvR24, cvR24, rfl⟩ := limR_open r7
      have FR24_R2_0 := Lib.hid ((limR_firm _ _) _ _ _ _ _ qfR24 hI.back)
      clear qfR24
      have hBR2 := hI.below
      have HCR2 := hI.next HCR1
      clear hI
      go_wp2
      go_ret
      exact ⟨_, rfl, (limR_firm _ _) _ _ _ _ _ FR24_R2_0.out keeps_out0, hBR2⟩
theorem gContr0 {c0 : Ctx} {g0 : Gh} {w : World} {xa ya xb yb xc yc xd yd : Int} {va : Value} (hI0 : RInv c0 g0 w) (hw : Wts c0.W0) (ha : RowL (xa - xd) (ya - yd) (xb - xd) (yb - yd) (xc - xd) (yc - yd) va g0 w) (sxa : S xa) (sya : S ya) (sxb : S xb) (syb : S yb) (sxc : S xc) (syc : S yc) (sxd : S xd) (syd : S yd) :
    Calls Tryz.prog 111 #[va, .int .i64 0] w (Gives (LimR 5 (((xa - xd) * (xa - xd) + (ya - yd) * (ya - yd)) * ((xb - xd) * (yc - yd) - (yb - yd) * (xc - xd)))) g0 w) := by
  have qa := ha
  obtain ⟨P0, m0, Q0, n0, P1, m1, Q1, n1, P2, m2, Q2, n2, rfl⟩ := rowL_open ha
  exact gContr00 hI0 hw qa sxa sya sxb syb sxc syc sxd syd
set_option maxRecDepth 100000 in
set_option maxHeartbeats 4000000 in
theorem gContr10 {c0 : Ctx} {g0 : Gh} {w : World} {xa ya xb yb xc yc xd yd : Int} {P0 Q0 P1 Q1 P2 Q2 : Option Addr} {m0 n0 m1 n1 m2 n2 : Nat} (hI0 : RInv c0 g0 w) (hw : Wts c0.W0) (qa : RowL (xa - xd) (ya - yd) (xb - xd) (yb - yd) (xc - xd) (yc - yd) (.agg #[.slice P0 2 m0, .slice Q0 2 n0, .slice P1 2 m1, .slice Q1 2 n1, .slice P2 2 m2, .slice Q2 2 n2]) g0 w) (sxa : S xa) (sya : S ya) (sxb : S xb) (syb : S yb) (sxc : S xc) (syc : S yc) (sxd : S xd) (syd : S yd) :
    Calls Tryz.prog 111 #[.agg #[.slice P0 2 m0, .slice Q0 2 n0, .slice P1 2 m1, .slice Q1 2 n1, .slice P2 2 m2, .slice Q2 2 n2], .int .i64 1] w (Gives (LimR 5 (((xb - xd) * (xb - xd) + (yb - yd) * (yb - yd)) * ((xc - xd) * (ya - yd) - (yc - yd) * (xa - xd)))) g0 w) := by
  have hw1 := hw.below hI0.below
  obtain ⟨W, hW⟩ : ∃ W, W = w.alloc (.cells #[.slice P0 2 m0, .slice Q0 2 n0, .slice P1 2 m1, .slice Q1 2 n1, .slice P2 2 m2, .slice Q2 2 n2] 163) := ⟨_, rfl⟩
  have hb0 : Below w.heap.size w W := by rw [hW]; exact ((Below.refl _ _).alloc (Nat.le_refl _) _)
  have HOK := Ctx.ok_lift0 hI0 hb0
  have C0_W_0 := Lib.hid (show W.cell? ⟨w.heap.size, 0, none⟩ = some (.slice P0 2 m0) by rw [hW]; simp [go_sem])
  have C0_W_1 := Lib.hid (show W.cell? ⟨w.heap.size, 1, none⟩ = some (.slice Q0 2 n0) by rw [hW]; simp [go_sem])
  have C0_W_2 := Lib.hid (show W.cell? ⟨w.heap.size, 2, none⟩ = some (.slice P1 2 m1) by rw [hW]; simp [go_sem])
  have C0_W_3 := Lib.hid (show W.cell? ⟨w.heap.size, 3, none⟩ = some (.slice Q1 2 n1) by rw [hW]; simp [go_sem])
  have C0_W_4 := Lib.hid (show W.cell? ⟨w.heap.size, 4, none⟩ = some (.slice P2 2 m2) by rw [hW]; simp [go_sem])
  have C0_W_5 := Lib.hid (show W.cell? ⟨w.heap.size, 5, none⟩ = some (.slice Q2 2 n2) by rw [hW]; simp [go_sem])
  have Fu0_W_02 := Lib.hid ((vecL_firm _ _) _ _ _ _ _ (rowL_0 qa) (keeps_lift0 hb0))
  have Fu1_W_22 := Lib.hid ((vecL_firm _ _) _ _ _ _ _ (rowL_1 qa) (keeps_lift0 hb0))
  have Fu2_W_42 := Lib.hid ((vecL_firm _ _) _ _ _ _ _ (rowL_2 qa) (keeps_lift0 hb0))
  have HO0 : Off (lift0 g0) (w.heap.size) := lift0_off (hI0.offs _ (by omega))
  have HW := Lib.hid hW
  clear hW
  go_enter Tryz.func111, Tryz.ntmps111
  go_upto_region 1 with (fail)
  rw [← HW.out]
  refine box_plan (c := ⟨w, W, (lift0 g0)⟩) HOK (by kernel_rfl) [[], [(6, 0)], [(7, 1)], [(8, 2)], [(9, 3)], [], [(11, 5)], [(12, 6)], [(13, 7)], [(14, 8)], [(10, 4), (15, 9)], [(16, 10)]] [(6, 0), (7, 1), (8, 2), (9, 3), (10, 4), (11, 5), (12, 6), (13, 7), (14, 8), (15, 9), (16, 10), (5, 11)] [
      (fun v _ _ => v = .int .i64 1),
      (fun v _ _ => v = .int .i64 2),
      (fun v _ _ => v = .int .i64 2),
      (fun v _ _ => v = .pointer (some ⟨w.heap.size, 4, none⟩)),
      (fun v _ _ => v = .agg #[.slice P2 2 m2, .slice Q2 2 n2]),
      (fun v _ _ => v = .int .i64 1),
      (fun v _ _ => v = .int .i64 3),
      (fun v _ _ => v = .int .i64 0),
      (fun v _ _ => v = .pointer (some ⟨w.heap.size, 0, none⟩)),
      (fun v _ _ => v = .agg #[.slice P0 2 m0, .slice Q0 2 n0]),
      LimR 4 ((xc - xd) * (ya - yd) - (yc - yd) * (xa - xd)),
      LimR 4 ((xc - xd) * (ya - yd) - (yc - yd) * (xa - xd))
    ] (fun _ => none) (by kernel_rfl) (by kernel_rfl) ⟨stab_eq, stab_eq, stab_eq, stab_eq, stab_eq, stab_eq, stab_eq, stab_eq, stab_eq, stab_eq, stab_firm (limR_firm _ _), stab_firm (limR_firm _ _), trivial⟩ ?steps ?fin
  case steps =>
    refine ⟨?_, ?_, ?_, ?_, ?_, ?_, ?_, ?_, ?_, ?_, ?_, ?_, trivial⟩
    · intro vs g w2 hI hF hR K hK
      simp only [Facts, fill, Act.put, z1, z2, z3, z4, z5, Nat.reduceAdd] at hF hR hK ⊢
      go_simp
      exact hK _ _ _ hI (Step.refl hI) rfl
    · intro vs g w2 hI hF hR K hK
      simp only [Facts, fill, Act.put, z1, z2, z3, z4, z5, Nat.reduceAdd] at hF hR hK ⊢
      obtain ⟨r0, -⟩ := hR
      generalize vs 0 = x0 at *
      subst r0
      go_simp
      exact hK _ _ _ hI (Step.refl hI) rfl
    · intro vs g w2 hI hF hR K hK
      simp only [Facts, fill, Act.put, z1, z2, z3, z4, z5, Nat.reduceAdd] at hF hR hK ⊢
      obtain ⟨r1, -⟩ := hR
      generalize vs 1 = x1 at *
      subst r1
      go_simp
      exact hK _ _ _ hI (Step.refl hI) rfl
    · intro vs g w2 hI hF hR K hK
      simp only [Facts, fill, Act.put, z1, z2, z3, z4, z5, Nat.reduceAdd] at hF hR hK ⊢
      obtain ⟨r2, -⟩ := hR
      generalize vs 2 = x2 at *
      subst r2
      go_simp
      exact hK _ _ _ hI (Step.refl hI) rfl
    · intro vs g w2 hI hF hR K hK
      simp only [Facts, fill, Act.put, z1, z2, z3, z4, z5, Nat.reduceAdd] at hF hR hK ⊢
      obtain ⟨r3, -⟩ := hR
      generalize vs 3 = x3 at *
      subst r3
      have k0 := hI.cell C0_W_4.out (by first | exact HO0 | assumption)
      have k1 := hI.cell C0_W_5.out (by first | exact HO0 | assumption)
      go_simp
      exact hK _ _ _ hI (Step.refl hI) rfl
    · intro vs g w2 hI hF hR K hK
      simp only [Facts, fill, Act.put, z1, z2, z3, z4, z5, Nat.reduceAdd] at hF hR hK ⊢
      go_simp
      exact hK _ _ _ hI (Step.refl hI) rfl
    · intro vs g w2 hI hF hR K hK
      simp only [Facts, fill, Act.put, z1, z2, z3, z4, z5, Nat.reduceAdd] at hF hR hK ⊢
      obtain ⟨r5, -⟩ := hR
      generalize vs 5 = x5 at *
      subst r5
      go_simp
      exact hK _ _ _ hI (Step.refl hI) rfl
    · intro vs g w2 hI hF hR K hK
      simp only [Facts, fill, Act.put, z1, z2, z3, z4, z5, Nat.reduceAdd] at hF hR hK ⊢
      obtain ⟨r6, -⟩ := hR
      generalize vs 6 = x6 at *
      subst r6
      go_simp
      exact hK _ _ _ hI (Step.refl hI) rfl
    · intro vs g w2 hI hF hR K hK
      simp only [Facts, fill, Act.put, z1, z2, z3, z4, z5, Nat.reduceAdd] at hF hR hK ⊢
      obtain ⟨r7, -⟩ := hR
      generalize vs 7 = x7 at *
      subst r7
      go_simp
      exact hK _ _ _ hI (Step.refl hI) rfl
    · intro vs g w2 hI hF hR K hK
      simp only [Facts, fill, Act.put, z1, z2, z3, z4, z5, Nat.reduceAdd] at hF hR hK ⊢
      obtain ⟨r8, -⟩ := hR
      generalize vs 8 = x8 at *
      subst r8
      have k0 := hI.cell C0_W_0.out (by first | exact HO0 | assumption)
      have k1 := hI.cell C0_W_1.out (by first | exact HO0 | assumption)
      go_simp
      exact hK _ _ _ hI (Step.refl hI) rfl
    · intro vs g w2 hI hF hR K hK
      simp only [Facts, fill, Act.put, z1, z2, z3, z4, z5, Nat.reduceAdd] at hF hR hK ⊢
      obtain ⟨r4, r9, -⟩ := hR
      generalize vs 4 = x4, vs 9 = x9 at *
      subst r4 r9
      go_simp
      refine (gCross hI hw1 ((vecL_firm _ _) _ _ _ _ _ Fu2_W_42.out hI.keeps) ((vecL_firm _ _) _ _ _ _ _ Fu0_W_02.out hI.keeps) (by first | exact HE0.out | exact HE1.out | exact HE2.out | exact HE3.out | exact Fit.sv (by repeat first | exact S.diff (by first | assumption | (unfold S; decide)) (by first | assumption | (unfold S; decide)) | apply Fit.neg | (unfold Fit; decide +kernel))) (by first | exact HE0.out | exact HE1.out | exact HE2.out | exact HE3.out | exact Fit.sv (by repeat first | exact S.diff (by first | assumption | (unfold S; decide)) (by first | assumption | (unfold S; decide)) | apply Fit.neg | (unfold Fit; decide +kernel))) (by first | exact HE0.out | exact HE1.out | exact HE2.out | exact HE3.out | exact Fit.sv (by repeat first | exact S.diff (by first | assumption | (unfold S; decide)) (by first | assumption | (unfold S; decide)) | apply Fit.neg | (unfold Fit; decide +kernel))) (by first | exact HE0.out | exact HE1.out | exact HE2.out | exact HE3.out | exact Fit.sv (by repeat first | exact S.diff (by first | assumption | (unfold S; decide)) (by first | assumption | (unfold S; decide)) | apply Fit.neg | (unfold Fit; decide +kernel)))).mono ?_
      rintro e w3 ⟨v3, rfl, hv, hb⟩
      exact hK _ _ _ (hI.call hb) (Step.call hI hb) hv
    · intro vs g w2 hI hF hR K hK
      simp only [Facts, fill, Act.put, z1, z2, z3, z4, z5, Nat.reduceAdd] at hF hR hK ⊢
      obtain ⟨r10, -⟩ := hR
      generalize vs 10 = x10 at *
      go_simp
      exact hK _ _ _ hI (Step.refl hI) r10
  case fin =>
    intro vs g wR1 hI hR
    have r11 := hR 11 (by decide)
    simp only [fill, Act.put, z1, z2, z3, z4, z5] at r11 ⊢
    clear hR
    generalize vs 11 = x11 at *
    have C0_R1_0 := Lib.hid (hI.cell C0_W_0.out (by first | exact HO0 | assumption))
    have C0_R1_1 := Lib.hid (hI.cell C0_W_1.out (by first | exact HO0 | assumption))
    have C0_R1_2 := Lib.hid (hI.cell C0_W_2.out (by first | exact HO0 | assumption))
    have C0_R1_3 := Lib.hid (hI.cell C0_W_3.out (by first | exact HO0 | assumption))
    have C0_R1_4 := Lib.hid (hI.cell C0_W_4.out (by first | exact HO0 | assumption))
    have C0_R1_5 := Lib.hid (hI.cell C0_W_5.out (by first | exact HO0 | assumption))
    have Fu0_R1_02 := Lib.hid ((vecL_firm _ _) _ _ _ _ _ Fu0_W_02.out hI.carry)
    have Fu1_R1_22 := Lib.hid ((vecL_firm _ _) _ _ _ _ _ Fu1_W_22.out hI.carry)
    have Fu2_R1_42 := Lib.hid ((vecL_firm _ _) _ _ _ _ _ Fu2_W_42.out hI.carry)
    have qfR15 := r11
    obtain ⟨AvR15, cvR15, rfl⟩ := limR_open r11
    have FR15_R1_0 := Lib.hid ((limR_firm _ _) _ _ _ _ _ qfR15 hI.back)
    clear qfR15
    have hBR1 := hI.below
    have HCR1 := hI.next HOK
    clear hI
    go_upto_region 2 with (fail)
    refine box_plan0 (c := ⟨w, wR1, (lift0 g0)⟩) HCR1 [[], [(17, 0)], [(18, 1)], [(19, 2)], [], [(20, 3), (21, 4)], [(22, 5)], [(23, 6)]] [(17, 0), (18, 1), (19, 2), (20, 3), (21, 4), (22, 5), (23, 6), (4, 7)] [
        (fun v _ _ => v = .int .i64 1),
        (fun v _ _ => v = .pointer (some ⟨w.heap.size, 2, none⟩)),
        (fun v _ _ => v = .agg #[.slice P1 2 m1, .slice Q1 2 n1]),
        LimR 4 ((xb - xd) * (xb - xd) + (yb - yd) * (yb - yd)),
        (fun v _ _ => v = .slice AvR15 4 cvR15),
        LimR 8 (((xb - xd) * (xb - xd) + (yb - yd) * (yb - yd)) * ((xc - xd) * (ya - yd) - (yc - yd) * (xa - xd))),
        LimR 5 (((xb - xd) * (xb - xd) + (yb - yd) * (yb - yd)) * ((xc - xd) * (ya - yd) - (yc - yd) * (xa - xd))),
        LimR 5 (((xb - xd) * (xb - xd) + (yb - yd) * (yb - yd)) * ((xc - xd) * (ya - yd) - (yc - yd) * (xa - xd)))
      ] (fun _ => none) (by kernel_rfl) (by kernel_rfl) ⟨stab_eq, stab_eq, stab_eq, stab_firm (limR_firm _ _), stab_eq, stab_firm (limR_firm _ _), stab_firm (limR_firm _ _), stab_firm (limR_firm _ _), trivial⟩ ?steps ?fin
    case steps =>
      refine ⟨?_, ?_, ?_, ?_, ?_, ?_, ?_, ?_, trivial⟩
      · intro vs g w2 hI hF hR K hK
        simp only [Facts, fill, Act.put, z1, z2, z3, z4, z5, Nat.reduceAdd] at hF hR hK ⊢
        go_simp
        exact hK _ _ _ hI (Step.refl hI) rfl
      · intro vs g w2 hI hF hR K hK
        simp only [Facts, fill, Act.put, z1, z2, z3, z4, z5, Nat.reduceAdd] at hF hR hK ⊢
        obtain ⟨r0, -⟩ := hR
        generalize vs 0 = x0 at *
        subst r0
        go_simp
        exact hK _ _ _ hI (Step.refl hI) rfl
      · intro vs g w2 hI hF hR K hK
        simp only [Facts, fill, Act.put, z1, z2, z3, z4, z5, Nat.reduceAdd] at hF hR hK ⊢
        obtain ⟨r1, -⟩ := hR
        generalize vs 1 = x1 at *
        subst r1
        have k0 := hI.cell C0_R1_2.out (by first | exact HO0 | assumption)
        have k1 := hI.cell C0_R1_3.out (by first | exact HO0 | assumption)
        go_simp
        exact hK _ _ _ hI (Step.refl hI) rfl
      · intro vs g w2 hI hF hR K hK
        simp only [Facts, fill, Act.put, z1, z2, z3, z4, z5, Nat.reduceAdd] at hF hR hK ⊢
        obtain ⟨r2, -⟩ := hR
        generalize vs 2 = x2 at *
        subst r2
        go_simp
        refine (gNorm hI hw1 ((vecL_firm _ _) _ _ _ _ _ Fu1_R1_22.out hI.keeps) (by first | exact HE0.out | exact HE1.out | exact HE2.out | exact HE3.out | exact Fit.sv (by repeat first | exact S.diff (by first | assumption | (unfold S; decide)) (by first | assumption | (unfold S; decide)) | apply Fit.neg | (unfold Fit; decide +kernel))) (by first | exact HE0.out | exact HE1.out | exact HE2.out | exact HE3.out | exact Fit.sv (by repeat first | exact S.diff (by first | assumption | (unfold S; decide)) (by first | assumption | (unfold S; decide)) | apply Fit.neg | (unfold Fit; decide +kernel)))).mono ?_
        rintro e w3 ⟨v3, rfl, hv, hb⟩
        exact hK _ _ _ (hI.call hb) (Step.call hI hb) hv
      · intro vs g w2 hI hF hR K hK
        simp only [Facts, fill, Act.put, z1, z2, z3, z4, z5, Nat.reduceAdd] at hF hR hK ⊢
        go_simp
        exact hK _ _ _ hI (Step.refl hI) rfl
      · intro vs g w2 hI hF hR K hK
        simp only [Facts, fill, Act.put, z1, z2, z3, z4, z5, Nat.reduceAdd] at hF hR hK ⊢
        obtain ⟨r3, r4, -⟩ := hR
        generalize vs 3 = x3, vs 4 = x4 at *
        subst r4
        go_simp
        refine (gLimMul hI hw1 r3 ((limR_firm _ _) _ _ _ _ _ FR15_R1_0.out hI.keeps) (Fit.sv (by first | (refine fit4_sub ?_ ?_ ?_ ?_ <;> repeat first | exact S.diff (by first | assumption | (unfold S; decide)) (by first | assumption | (unfold S; decide)) | apply Fit.neg) | (refine fit4_add ?_ ?_ ?_ ?_ <;> repeat first | exact S.diff (by first | assumption | (unfold S; decide)) (by first | assumption | (unfold S; decide)) | apply Fit.neg))) (Fit.sv (by first | (refine fit4_sub ?_ ?_ ?_ ?_ <;> repeat first | exact S.diff (by first | assumption | (unfold S; decide)) (by first | assumption | (unfold S; decide)) | apply Fit.neg) | (refine fit4_add ?_ ?_ ?_ ?_ <;> repeat first | exact S.diff (by first | assumption | (unfold S; decide)) (by first | assumption | (unfold S; decide)) | apply Fit.neg))) (by decide) (by decide) (by decide) rfl).mono ?_
        rintro e w3 ⟨v3, rfl, hv, hb⟩
        exact hK _ _ _ (hI.call hb) (Step.call hI hb) hv
      · intro vs g w2 hI hF hR K hK
        simp only [Facts, fill, Act.put, z1, z2, z3, z4, z5, Nat.reduceAdd] at hF hR hK ⊢
        obtain ⟨r5, -⟩ := hR
        generalize vs 5 = x5 at *
        go_simp
        refine (gLimExtend (m := 5) hI hw1 r5 (Fit.sv (con_fit (diff_bd (by first | assumption | (unfold S; decide)) (by first | assumption | (unfold S; decide))) (diff_bd (by first | assumption | (unfold S; decide)) (by first | assumption | (unfold S; decide))) (diff_bd (by first | assumption | (unfold S; decide)) (by first | assumption | (unfold S; decide))) (diff_bd (by first | assumption | (unfold S; decide)) (by first | assumption | (unfold S; decide))) (diff_bd (by first | assumption | (unfold S; decide)) (by first | assumption | (unfold S; decide))) (diff_bd (by first | assumption | (unfold S; decide)) (by first | assumption | (unfold S; decide))))) (by decide) (by decide) (by decide) (by decide)).mono ?_
        rintro e w3 ⟨v3, rfl, hv, hb⟩
        exact hK _ _ _ (hI.call hb) (Step.call hI hb) hv
      · intro vs g w2 hI hF hR K hK
        simp only [Facts, fill, Act.put, z1, z2, z3, z4, z5, Nat.reduceAdd] at hF hR hK ⊢
        obtain ⟨r6, -⟩ := hR
        generalize vs 6 = x6 at *
        go_simp
        exact hK _ _ _ hI (Step.refl hI) r6
    case fin =>
      intro vs g wR2 hI hR
      have r7 := hR 7 (by decide)
      simp only [fill, Act.put, z1, z2, z3, z4, z5] at r7 ⊢
      clear hR
      generalize vs 7 = x7 at *
      have C0_R2_0 := Lib.hid (hI.cell C0_R1_0.out (by first | exact HO0 | assumption))
      have C0_R2_1 := Lib.hid (hI.cell C0_R1_1.out (by first | exact HO0 | assumption))
      have C0_R2_2 := Lib.hid (hI.cell C0_R1_2.out (by first | exact HO0 | assumption))
      have C0_R2_3 := Lib.hid (hI.cell C0_R1_3.out (by first | exact HO0 | assumption))
      have C0_R2_4 := Lib.hid (hI.cell C0_R1_4.out (by first | exact HO0 | assumption))
      have C0_R2_5 := Lib.hid (hI.cell C0_R1_5.out (by first | exact HO0 | assumption))
      have Fu0_R2_02 := Lib.hid ((vecL_firm _ _) _ _ _ _ _ Fu0_R1_02.out hI.carry)
      have Fu1_R2_22 := Lib.hid ((vecL_firm _ _) _ _ _ _ _ Fu1_R1_22.out hI.carry)
      have Fu2_R2_42 := Lib.hid ((vecL_firm _ _) _ _ _ _ _ Fu2_R1_42.out hI.carry)
      have FR15_R2_0 := Lib.hid ((limR_firm _ _) _ _ _ _ _ FR15_R1_0.out hI.carry)
      have qfR24 := r7
      obtain ⟨AvR24, cvR24, rfl⟩ := limR_open r7
      have FR24_R2_0 := Lib.hid ((limR_firm _ _) _ _ _ _ _ qfR24 hI.back)
      clear qfR24
      have hBR2 := hI.below
      have HCR2 := hI.next HCR1
      clear hI
      go_wp2
      go_ret
      exact ⟨_, rfl, (limR_firm _ _) _ _ _ _ _ FR24_R2_0.out keeps_out0, hBR2⟩
theorem gContr1 {c0 : Ctx} {g0 : Gh} {w : World} {xa ya xb yb xc yc xd yd : Int} {va : Value} (hI0 : RInv c0 g0 w) (hw : Wts c0.W0) (ha : RowL (xa - xd) (ya - yd) (xb - xd) (yb - yd) (xc - xd) (yc - yd) va g0 w) (sxa : S xa) (sya : S ya) (sxb : S xb) (syb : S yb) (sxc : S xc) (syc : S yc) (sxd : S xd) (syd : S yd) :
    Calls Tryz.prog 111 #[va, .int .i64 1] w (Gives (LimR 5 (((xb - xd) * (xb - xd) + (yb - yd) * (yb - yd)) * ((xc - xd) * (ya - yd) - (yc - yd) * (xa - xd)))) g0 w) := by
  have qa := ha
  obtain ⟨P0, m0, Q0, n0, P1, m1, Q1, n1, P2, m2, Q2, n2, rfl⟩ := rowL_open ha
  exact gContr10 hI0 hw qa sxa sya sxb syb sxc syc sxd syd
set_option maxRecDepth 100000 in
set_option maxHeartbeats 4000000 in
theorem gContr20 {c0 : Ctx} {g0 : Gh} {w : World} {xa ya xb yb xc yc xd yd : Int} {P0 Q0 P1 Q1 P2 Q2 : Option Addr} {m0 n0 m1 n1 m2 n2 : Nat} (hI0 : RInv c0 g0 w) (hw : Wts c0.W0) (qa : RowL (xa - xd) (ya - yd) (xb - xd) (yb - yd) (xc - xd) (yc - yd) (.agg #[.slice P0 2 m0, .slice Q0 2 n0, .slice P1 2 m1, .slice Q1 2 n1, .slice P2 2 m2, .slice Q2 2 n2]) g0 w) (sxa : S xa) (sya : S ya) (sxb : S xb) (syb : S yb) (sxc : S xc) (syc : S yc) (sxd : S xd) (syd : S yd) :
    Calls Tryz.prog 111 #[.agg #[.slice P0 2 m0, .slice Q0 2 n0, .slice P1 2 m1, .slice Q1 2 n1, .slice P2 2 m2, .slice Q2 2 n2], .int .i64 2] w (Gives (LimR 5 (((xc - xd) * (xc - xd) + (yc - yd) * (yc - yd)) * ((xa - xd) * (yb - yd) - (ya - yd) * (xb - xd)))) g0 w) := by
  have hw1 := hw.below hI0.below
  obtain ⟨W, hW⟩ : ∃ W, W = w.alloc (.cells #[.slice P0 2 m0, .slice Q0 2 n0, .slice P1 2 m1, .slice Q1 2 n1, .slice P2 2 m2, .slice Q2 2 n2] 163) := ⟨_, rfl⟩
  have hb0 : Below w.heap.size w W := by rw [hW]; exact ((Below.refl _ _).alloc (Nat.le_refl _) _)
  have HOK := Ctx.ok_lift0 hI0 hb0
  have C0_W_0 := Lib.hid (show W.cell? ⟨w.heap.size, 0, none⟩ = some (.slice P0 2 m0) by rw [hW]; simp [go_sem])
  have C0_W_1 := Lib.hid (show W.cell? ⟨w.heap.size, 1, none⟩ = some (.slice Q0 2 n0) by rw [hW]; simp [go_sem])
  have C0_W_2 := Lib.hid (show W.cell? ⟨w.heap.size, 2, none⟩ = some (.slice P1 2 m1) by rw [hW]; simp [go_sem])
  have C0_W_3 := Lib.hid (show W.cell? ⟨w.heap.size, 3, none⟩ = some (.slice Q1 2 n1) by rw [hW]; simp [go_sem])
  have C0_W_4 := Lib.hid (show W.cell? ⟨w.heap.size, 4, none⟩ = some (.slice P2 2 m2) by rw [hW]; simp [go_sem])
  have C0_W_5 := Lib.hid (show W.cell? ⟨w.heap.size, 5, none⟩ = some (.slice Q2 2 n2) by rw [hW]; simp [go_sem])
  have Fu0_W_02 := Lib.hid ((vecL_firm _ _) _ _ _ _ _ (rowL_0 qa) (keeps_lift0 hb0))
  have Fu1_W_22 := Lib.hid ((vecL_firm _ _) _ _ _ _ _ (rowL_1 qa) (keeps_lift0 hb0))
  have Fu2_W_42 := Lib.hid ((vecL_firm _ _) _ _ _ _ _ (rowL_2 qa) (keeps_lift0 hb0))
  have HO0 : Off (lift0 g0) (w.heap.size) := lift0_off (hI0.offs _ (by omega))
  have HW := Lib.hid hW
  clear hW
  go_enter Tryz.func111, Tryz.ntmps111
  go_upto_region 1 with (fail)
  rw [← HW.out]
  refine box_plan (c := ⟨w, W, (lift0 g0)⟩) HOK (by kernel_rfl) [[], [(6, 0)], [(7, 1)], [(8, 2)], [(9, 3)], [], [(11, 5)], [(12, 6)], [(13, 7)], [(14, 8)], [(10, 4), (15, 9)], [(16, 10)]] [(6, 0), (7, 1), (8, 2), (9, 3), (10, 4), (11, 5), (12, 6), (13, 7), (14, 8), (15, 9), (16, 10), (5, 11)] [
      (fun v _ _ => v = .int .i64 2),
      (fun v _ _ => v = .int .i64 3),
      (fun v _ _ => v = .int .i64 0),
      (fun v _ _ => v = .pointer (some ⟨w.heap.size, 0, none⟩)),
      (fun v _ _ => v = .agg #[.slice P0 2 m0, .slice Q0 2 n0]),
      (fun v _ _ => v = .int .i64 2),
      (fun v _ _ => v = .int .i64 4),
      (fun v _ _ => v = .int .i64 1),
      (fun v _ _ => v = .pointer (some ⟨w.heap.size, 2, none⟩)),
      (fun v _ _ => v = .agg #[.slice P1 2 m1, .slice Q1 2 n1]),
      LimR 4 ((xa - xd) * (yb - yd) - (ya - yd) * (xb - xd)),
      LimR 4 ((xa - xd) * (yb - yd) - (ya - yd) * (xb - xd))
    ] (fun _ => none) (by kernel_rfl) (by kernel_rfl) ⟨stab_eq, stab_eq, stab_eq, stab_eq, stab_eq, stab_eq, stab_eq, stab_eq, stab_eq, stab_eq, stab_firm (limR_firm _ _), stab_firm (limR_firm _ _), trivial⟩ ?steps ?fin
  case steps =>
    refine ⟨?_, ?_, ?_, ?_, ?_, ?_, ?_, ?_, ?_, ?_, ?_, ?_, trivial⟩
    · intro vs g w2 hI hF hR K hK
      simp only [Facts, fill, Act.put, z1, z2, z3, z4, z5, Nat.reduceAdd] at hF hR hK ⊢
      go_simp
      exact hK _ _ _ hI (Step.refl hI) rfl
    · intro vs g w2 hI hF hR K hK
      simp only [Facts, fill, Act.put, z1, z2, z3, z4, z5, Nat.reduceAdd] at hF hR hK ⊢
      obtain ⟨r0, -⟩ := hR
      generalize vs 0 = x0 at *
      subst r0
      go_simp
      exact hK _ _ _ hI (Step.refl hI) rfl
    · intro vs g w2 hI hF hR K hK
      simp only [Facts, fill, Act.put, z1, z2, z3, z4, z5, Nat.reduceAdd] at hF hR hK ⊢
      obtain ⟨r1, -⟩ := hR
      generalize vs 1 = x1 at *
      subst r1
      go_simp
      exact hK _ _ _ hI (Step.refl hI) rfl
    · intro vs g w2 hI hF hR K hK
      simp only [Facts, fill, Act.put, z1, z2, z3, z4, z5, Nat.reduceAdd] at hF hR hK ⊢
      obtain ⟨r2, -⟩ := hR
      generalize vs 2 = x2 at *
      subst r2
      go_simp
      exact hK _ _ _ hI (Step.refl hI) rfl
    · intro vs g w2 hI hF hR K hK
      simp only [Facts, fill, Act.put, z1, z2, z3, z4, z5, Nat.reduceAdd] at hF hR hK ⊢
      obtain ⟨r3, -⟩ := hR
      generalize vs 3 = x3 at *
      subst r3
      have k0 := hI.cell C0_W_0.out (by first | exact HO0 | assumption)
      have k1 := hI.cell C0_W_1.out (by first | exact HO0 | assumption)
      go_simp
      exact hK _ _ _ hI (Step.refl hI) rfl
    · intro vs g w2 hI hF hR K hK
      simp only [Facts, fill, Act.put, z1, z2, z3, z4, z5, Nat.reduceAdd] at hF hR hK ⊢
      go_simp
      exact hK _ _ _ hI (Step.refl hI) rfl
    · intro vs g w2 hI hF hR K hK
      simp only [Facts, fill, Act.put, z1, z2, z3, z4, z5, Nat.reduceAdd] at hF hR hK ⊢
      obtain ⟨r5, -⟩ := hR
      generalize vs 5 = x5 at *
      subst r5
      go_simp
      exact hK _ _ _ hI (Step.refl hI) rfl
    · intro vs g w2 hI hF hR K hK
      simp only [Facts, fill, Act.put, z1, z2, z3, z4, z5, Nat.reduceAdd] at hF hR hK ⊢
      obtain ⟨r6, -⟩ := hR
      generalize vs 6 = x6 at *
      subst r6
      go_simp
      exact hK _ _ _ hI (Step.refl hI) rfl
    · intro vs g w2 hI hF hR K hK
      simp only [Facts, fill, Act.put, z1, z2, z3, z4, z5, Nat.reduceAdd] at hF hR hK ⊢
      obtain ⟨r7, -⟩ := hR
      generalize vs 7 = x7 at *
      subst r7
      go_simp
      exact hK _ _ _ hI (Step.refl hI) rfl
    · intro vs g w2 hI hF hR K hK
      simp only [Facts, fill, Act.put, z1, z2, z3, z4, z5, Nat.reduceAdd] at hF hR hK ⊢
      obtain ⟨r8, -⟩ := hR
      generalize vs 8 = x8 at *
      subst r8
      have k0 := hI.cell C0_W_2.out (by first | exact HO0 | assumption)
      have k1 := hI.cell C0_W_3.out (by first | exact HO0 | assumption)
      go_simp
      exact hK _ _ _ hI (Step.refl hI) rfl
    · intro vs g w2 hI hF hR K hK
      simp only [Facts, fill, Act.put, z1, z2, z3, z4, z5, Nat.reduceAdd] at hF hR hK ⊢
      obtain ⟨r4, r9, -⟩ := hR
      generalize vs 4 = x4, vs 9 = x9 at *
      subst r4 r9
      go_simp
      refine (gCross hI hw1 ((vecL_firm _ _) _ _ _ _ _ Fu0_W_02.out hI.keeps) ((vecL_firm _ _) _ _ _ _ _ Fu1_W_22.out hI.keeps) (by first | exact HE0.out | exact HE1.out | exact HE2.out | exact HE3.out | exact Fit.sv (by repeat first | exact S.diff (by first | assumption | (unfold S; decide)) (by first | assumption | (unfold S; decide)) | apply Fit.neg | (unfold Fit; decide +kernel))) (by first | exact HE0.out | exact HE1.out | exact HE2.out | exact HE3.out | exact Fit.sv (by repeat first | exact S.diff (by first | assumption | (unfold S; decide)) (by first | assumption | (unfold S; decide)) | apply Fit.neg | (unfold Fit; decide +kernel))) (by first | exact HE0.out | exact HE1.out | exact HE2.out | exact HE3.out | exact Fit.sv (by repeat first | exact S.diff (by first | assumption | (unfold S; decide)) (by first | assumption | (unfold S; decide)) | apply Fit.neg | (unfold Fit; decide +kernel))) (by first | exact HE0.out | exact HE1.out | exact HE2.out | exact HE3.out | exact Fit.sv (by repeat first | exact S.diff (by first | assumption | (unfold S; decide)) (by first | assumption | (unfold S; decide)) | apply Fit.neg | (unfold Fit; decide +kernel)))).mono ?_
      rintro e w3 ⟨v3, rfl, hv, hb⟩
      exact hK _ _ _ (hI.call hb) (Step.call hI hb) hv
    · intro vs g w2 hI hF hR K hK
      simp only [Facts, fill, Act.put, z1, z2, z3, z4, z5, Nat.reduceAdd] at hF hR hK ⊢
      obtain ⟨r10, -⟩ := hR
      generalize vs 10 = x10 at *
      go_simp
      exact hK _ _ _ hI (Step.refl hI) r10
  case fin =>
    intro vs g wR1 hI hR
    have r11 := hR 11 (by decide)
    simp only [fill, Act.put, z1, z2, z3, z4, z5] at r11 ⊢
    clear hR
    generalize vs 11 = x11 at *
    have C0_R1_0 := Lib.hid (hI.cell C0_W_0.out (by first | exact HO0 | assumption))
    have C0_R1_1 := Lib.hid (hI.cell C0_W_1.out (by first | exact HO0 | assumption))
    have C0_R1_2 := Lib.hid (hI.cell C0_W_2.out (by first | exact HO0 | assumption))
    have C0_R1_3 := Lib.hid (hI.cell C0_W_3.out (by first | exact HO0 | assumption))
    have C0_R1_4 := Lib.hid (hI.cell C0_W_4.out (by first | exact HO0 | assumption))
    have C0_R1_5 := Lib.hid (hI.cell C0_W_5.out (by first | exact HO0 | assumption))
    have Fu0_R1_02 := Lib.hid ((vecL_firm _ _) _ _ _ _ _ Fu0_W_02.out hI.carry)
    have Fu1_R1_22 := Lib.hid ((vecL_firm _ _) _ _ _ _ _ Fu1_W_22.out hI.carry)
    have Fu2_R1_42 := Lib.hid ((vecL_firm _ _) _ _ _ _ _ Fu2_W_42.out hI.carry)
    have qfR15 := r11
    obtain ⟨AvR15, cvR15, rfl⟩ := limR_open r11
    have FR15_R1_0 := Lib.hid ((limR_firm _ _) _ _ _ _ _ qfR15 hI.back)
    clear qfR15
    have hBR1 := hI.below
    have HCR1 := hI.next HOK
    clear hI
    go_upto_region 2 with (fail)
    refine box_plan0 (c := ⟨w, wR1, (lift0 g0)⟩) HCR1 [[], [(17, 0)], [(18, 1)], [(19, 2)], [], [(20, 3), (21, 4)], [(22, 5)], [(23, 6)]] [(17, 0), (18, 1), (19, 2), (20, 3), (21, 4), (22, 5), (23, 6), (4, 7)] [
        (fun v _ _ => v = .int .i64 2),
        (fun v _ _ => v = .pointer (some ⟨w.heap.size, 4, none⟩)),
        (fun v _ _ => v = .agg #[.slice P2 2 m2, .slice Q2 2 n2]),
        LimR 4 ((xc - xd) * (xc - xd) + (yc - yd) * (yc - yd)),
        (fun v _ _ => v = .slice AvR15 4 cvR15),
        LimR 8 (((xc - xd) * (xc - xd) + (yc - yd) * (yc - yd)) * ((xa - xd) * (yb - yd) - (ya - yd) * (xb - xd))),
        LimR 5 (((xc - xd) * (xc - xd) + (yc - yd) * (yc - yd)) * ((xa - xd) * (yb - yd) - (ya - yd) * (xb - xd))),
        LimR 5 (((xc - xd) * (xc - xd) + (yc - yd) * (yc - yd)) * ((xa - xd) * (yb - yd) - (ya - yd) * (xb - xd)))
      ] (fun _ => none) (by kernel_rfl) (by kernel_rfl) ⟨stab_eq, stab_eq, stab_eq, stab_firm (limR_firm _ _), stab_eq, stab_firm (limR_firm _ _), stab_firm (limR_firm _ _), stab_firm (limR_firm _ _), trivial⟩ ?steps ?fin
    case steps =>
      refine ⟨?_, ?_, ?_, ?_, ?_, ?_, ?_, ?_, trivial⟩
      · intro vs g w2 hI hF hR K hK
        simp only [Facts, fill, Act.put, z1, z2, z3, z4, z5, Nat.reduceAdd] at hF hR hK ⊢
        go_simp
        exact hK _ _ _ hI (Step.refl hI) rfl
      · intro vs g w2 hI hF hR K hK
        simp only [Facts, fill, Act.put, z1, z2, z3, z4, z5, Nat.reduceAdd] at hF hR hK ⊢
        obtain ⟨r0, -⟩ := hR
        generalize vs 0 = x0 at *
        subst r0
        go_simp
        exact hK _ _ _ hI (Step.refl hI) rfl
      · intro vs g w2 hI hF hR K hK
        simp only [Facts, fill, Act.put, z1, z2, z3, z4, z5, Nat.reduceAdd] at hF hR hK ⊢
        obtain ⟨r1, -⟩ := hR
        generalize vs 1 = x1 at *
        subst r1
        have k0 := hI.cell C0_R1_4.out (by first | exact HO0 | assumption)
        have k1 := hI.cell C0_R1_5.out (by first | exact HO0 | assumption)
        go_simp
        exact hK _ _ _ hI (Step.refl hI) rfl
      · intro vs g w2 hI hF hR K hK
        simp only [Facts, fill, Act.put, z1, z2, z3, z4, z5, Nat.reduceAdd] at hF hR hK ⊢
        obtain ⟨r2, -⟩ := hR
        generalize vs 2 = x2 at *
        subst r2
        go_simp
        refine (gNorm hI hw1 ((vecL_firm _ _) _ _ _ _ _ Fu2_R1_42.out hI.keeps) (by first | exact HE0.out | exact HE1.out | exact HE2.out | exact HE3.out | exact Fit.sv (by repeat first | exact S.diff (by first | assumption | (unfold S; decide)) (by first | assumption | (unfold S; decide)) | apply Fit.neg | (unfold Fit; decide +kernel))) (by first | exact HE0.out | exact HE1.out | exact HE2.out | exact HE3.out | exact Fit.sv (by repeat first | exact S.diff (by first | assumption | (unfold S; decide)) (by first | assumption | (unfold S; decide)) | apply Fit.neg | (unfold Fit; decide +kernel)))).mono ?_
        rintro e w3 ⟨v3, rfl, hv, hb⟩
        exact hK _ _ _ (hI.call hb) (Step.call hI hb) hv
      · intro vs g w2 hI hF hR K hK
        simp only [Facts, fill, Act.put, z1, z2, z3, z4, z5, Nat.reduceAdd] at hF hR hK ⊢
        go_simp
        exact hK _ _ _ hI (Step.refl hI) rfl
      · intro vs g w2 hI hF hR K hK
        simp only [Facts, fill, Act.put, z1, z2, z3, z4, z5, Nat.reduceAdd] at hF hR hK ⊢
        obtain ⟨r3, r4, -⟩ := hR
        generalize vs 3 = x3, vs 4 = x4 at *
        subst r4
        go_simp
        refine (gLimMul hI hw1 r3 ((limR_firm _ _) _ _ _ _ _ FR15_R1_0.out hI.keeps) (Fit.sv (by first | (refine fit4_sub ?_ ?_ ?_ ?_ <;> repeat first | exact S.diff (by first | assumption | (unfold S; decide)) (by first | assumption | (unfold S; decide)) | apply Fit.neg) | (refine fit4_add ?_ ?_ ?_ ?_ <;> repeat first | exact S.diff (by first | assumption | (unfold S; decide)) (by first | assumption | (unfold S; decide)) | apply Fit.neg))) (Fit.sv (by first | (refine fit4_sub ?_ ?_ ?_ ?_ <;> repeat first | exact S.diff (by first | assumption | (unfold S; decide)) (by first | assumption | (unfold S; decide)) | apply Fit.neg) | (refine fit4_add ?_ ?_ ?_ ?_ <;> repeat first | exact S.diff (by first | assumption | (unfold S; decide)) (by first | assumption | (unfold S; decide)) | apply Fit.neg))) (by decide) (by decide) (by decide) rfl).mono ?_
        rintro e w3 ⟨v3, rfl, hv, hb⟩
        exact hK _ _ _ (hI.call hb) (Step.call hI hb) hv
      · intro vs g w2 hI hF hR K hK
        simp only [Facts, fill, Act.put, z1, z2, z3, z4, z5, Nat.reduceAdd] at hF hR hK ⊢
        obtain ⟨r5, -⟩ := hR
        generalize vs 5 = x5 at *
        go_simp
        refine (gLimExtend (m := 5) hI hw1 r5 (Fit.sv (con_fit (diff_bd (by first | assumption | (unfold S; decide)) (by first | assumption | (unfold S; decide))) (diff_bd (by first | assumption | (unfold S; decide)) (by first | assumption | (unfold S; decide))) (diff_bd (by first | assumption | (unfold S; decide)) (by first | assumption | (unfold S; decide))) (diff_bd (by first | assumption | (unfold S; decide)) (by first | assumption | (unfold S; decide))) (diff_bd (by first | assumption | (unfold S; decide)) (by first | assumption | (unfold S; decide))) (diff_bd (by first | assumption | (unfold S; decide)) (by first | assumption | (unfold S; decide))))) (by decide) (by decide) (by decide) (by decide)).mono ?_
        rintro e w3 ⟨v3, rfl, hv, hb⟩
        exact hK _ _ _ (hI.call hb) (Step.call hI hb) hv
      · intro vs g w2 hI hF hR K hK
        simp only [Facts, fill, Act.put, z1, z2, z3, z4, z5, Nat.reduceAdd] at hF hR hK ⊢
        obtain ⟨r6, -⟩ := hR
        generalize vs 6 = x6 at *
        go_simp
        exact hK _ _ _ hI (Step.refl hI) r6
    case fin =>
      intro vs g wR2 hI hR
      have r7 := hR 7 (by decide)
      simp only [fill, Act.put, z1, z2, z3, z4, z5] at r7 ⊢
      clear hR
      generalize vs 7 = x7 at *
      have C0_R2_0 := Lib.hid (hI.cell C0_R1_0.out (by first | exact HO0 | assumption))
      have C0_R2_1 := Lib.hid (hI.cell C0_R1_1.out (by first | exact HO0 | assumption))
      have C0_R2_2 := Lib.hid (hI.cell C0_R1_2.out (by first | exact HO0 | assumption))
      have C0_R2_3 := Lib.hid (hI.cell C0_R1_3.out (by first | exact HO0 | assumption))
      have C0_R2_4 := Lib.hid (hI.cell C0_R1_4.out (by first | exact HO0 | assumption))
      have C0_R2_5 := Lib.hid (hI.cell C0_R1_5.out (by first | exact HO0 | assumption))
      have Fu0_R2_02 := Lib.hid ((vecL_firm _ _) _ _ _ _ _ Fu0_R1_02.out hI.carry)
      have Fu1_R2_22 := Lib.hid ((vecL_firm _ _) _ _ _ _ _ Fu1_R1_22.out hI.carry)
      have Fu2_R2_42 := Lib.hid ((vecL_firm _ _) _ _ _ _ _ Fu2_R1_42.out hI.carry)
      have FR15_R2_0 := Lib.hid ((limR_firm _ _) _ _ _ _ _ FR15_R1_0.out hI.carry)
      have qfR24 := r7
      obtain ⟨AvR24, cvR24, rfl⟩ := limR_open r7
      have FR24_R2_0 := Lib.hid ((limR_firm _ _) _ _ _ _ _ qfR24 hI.back)
      clear qfR24
      have hBR2 := hI.below
      have HCR2 := hI.next HCR1
      clear hI
      go_wp2
      go_ret
      exact ⟨_, rfl, (limR_firm _ _) _ _ _ _ _ FR24_R2_0.out keeps_out0, hBR2⟩
theorem gContr2 {c0 : Ctx} {g0 : Gh} {w : World} {xa ya xb yb xc yc xd yd : Int} {va : Value} (hI0 : RInv c0 g0 w) (hw : Wts c0.W0) (ha : RowL (xa - xd) (ya - yd) (xb - xd) (yb - yd) (xc - xd) (yc - yd) va g0 w) (sxa : S xa) (sya : S ya) (sxb : S xb) (syb : S yb) (sxc : S xc) (syc : S yc) (sxd : S xd) (syd : S yd) :
    Calls Tryz.prog 111 #[va, .int .i64 2] w (Gives (LimR 5 (((xc - xd) * (xc - xd) + (yc - yd) * (yc - yd)) * ((xa - xd) * (yb - yd) - (ya - yd) * (xb - xd)))) g0 w) := by
  have qa := ha
  obtain ⟨P0, m0, Q0, n0, P1, m1, Q1, n1, P2, m2, Q2, n2, rfl⟩ := rowL_open ha
  exact gContr20 hI0 hw qa sxa sya sxb syb sxc syc sxd syd
def conSum (k : Nat) (xa ya xb yb xc yc xd yd : Int) : Int := match k with
  | 0 => 0
  | 1 => 0 + (((xa - xd) * (xa - xd) + (ya - yd) * (ya - yd)) * ((xb - xd) * (yc - yd) - (yb - yd) * (xc - xd)))
  | 2 => (0 + (((xa - xd) * (xa - xd) + (ya - yd) * (ya - yd)) * ((xb - xd) * (yc - yd) - (yb - yd) * (xc - xd)))) + (((xb - xd) * (xb - xd) + (yb - yd) * (yb - yd)) * ((xc - xd) * (ya - yd) - (yc - yd) * (xa - xd)))
  | _ => ((0 + (((xa - xd) * (xa - xd) + (ya - yd) * (ya - yd)) * ((xb - xd) * (yc - yd) - (yb - yd) * (xc - xd)))) + (((xb - xd) * (xb - xd) + (yb - yd) * (yb - yd)) * ((xc - xd) * (ya - yd) - (yc - yd) * (xa - xd)))) + (((xc - xd) * (xc - xd) + (yc - yd) * (yc - yd)) * ((xa - xd) * (yb - yd) - (ya - yd) * (xb - xd)))
def CirRel (w : World) (g : Gh) (p : Nat) (xa ya xb yb xc yc xd yd : Int) (P0 Q0 P1 Q1 P2 Q2 : Option Addr) (m0 n0 m1 n1 m2 n2 : Nat) (s i : Value) (wr : World) : Prop :=
  ∃ k : Nat, i = .int .i64 k ∧ k ≤ 3 ∧ LimR 5 (conSum k xa ya xb yb xc yc xd yd) s g wr ∧ RowL (xa - xd) (ya - yd) (xb - xd) (yb - yd) (xc - xd) (yc - yd) (.agg #[.slice P0 2 m0, .slice Q0 2 n0, .slice P1 2 m1, .slice Q1 2 n1, .slice P2 2 m2, .slice Q2 2 n2]) g wr ∧ Ctx.Ok ⟨w, wr, g⟩ ∧ wr.cell? ⟨p, 0, none⟩ = some (.slice P0 2 m0) ∧ wr.cell? ⟨p, 1, none⟩ = some (.slice Q0 2 n0) ∧ wr.cell? ⟨p, 2, none⟩ = some (.slice P1 2 m1) ∧ wr.cell? ⟨p, 3, none⟩ = some (.slice Q1 2 n1) ∧ wr.cell? ⟨p, 4, none⟩ = some (.slice P2 2 m2) ∧ wr.cell? ⟨p, 5, none⟩ = some (.slice Q2 2 n2)
set_option maxRecDepth 100000 in
set_option maxHeartbeats 4000000 in
theorem gCircleValue {c0 : Ctx} {g0 : Gh} {w : World} {xa ya xb yb xc yc xd yd : Int} (hI0 : RInv c0 g0 w) (hw : Wts c0.W0) (sxa : S xa) (sya : S ya) (sxb : S xb) (syb : S yb) (sxc : S xc) (syc : S yc) (sxd : S xd) (syd : S yd) :
    Calls Tryz.prog 99 #[.agg #[.int .i64 xa, .int .i64 ya], .agg #[.int .i64 xb, .int .i64 yb], .agg #[.int .i64 xc, .int .i64 yc], .agg #[.int .i64 xd, .int .i64 yd]] w (Gives (LimR 5 (lc xa ya xb yb xc yc xd yd)) g0 w) := by
  have hw1 := hw.below hI0.below
  obtain ⟨W, hW⟩ : ∃ W, W = (((w.alloc (.cells #[.int .i64 xa, .int .i64 ya] 24)).alloc (.cells #[.int .i64 xb, .int .i64 yb] 24)).alloc (.cells #[.int .i64 xc, .int .i64 yc] 24)).alloc (.cells #[.int .i64 xd, .int .i64 yd] 24) := ⟨_, rfl⟩
  have hb0 : Below w.heap.size w W := by rw [hW]; exact (((((Below.refl _ _).alloc (Nat.le_refl _) _).alloc (by simp) _).alloc (by simp; omega) _).alloc (by simp; omega) _)
  have HOK := Ctx.ok_lift0 hI0 hb0
  have C0_W_0 := Lib.hid (show W.cell? ⟨w.heap.size, 0, none⟩ = some (.int .i64 xa) by rw [hW]; simp [go_sem])
  have C0_W_1 := Lib.hid (show W.cell? ⟨w.heap.size, 1, none⟩ = some (.int .i64 ya) by rw [hW]; simp [go_sem])
  have HO0 : Off (lift0 g0) (w.heap.size) := lift0_off (hI0.offs _ (by omega))
  have C1_W_0 := Lib.hid (show W.cell? ⟨w.heap.size + 1, 0, none⟩ = some (.int .i64 xb) by rw [hW]; simp [go_sem])
  have C1_W_1 := Lib.hid (show W.cell? ⟨w.heap.size + 1, 1, none⟩ = some (.int .i64 yb) by rw [hW]; simp [go_sem])
  have HO1 : Off (lift0 g0) (w.heap.size + 1) := lift0_off (hI0.offs _ (by omega))
  have C2_W_0 := Lib.hid (show W.cell? ⟨w.heap.size + 1 + 1, 0, none⟩ = some (.int .i64 xc) by rw [hW]; simp [go_sem])
  have C2_W_1 := Lib.hid (show W.cell? ⟨w.heap.size + 1 + 1, 1, none⟩ = some (.int .i64 yc) by rw [hW]; simp [go_sem])
  have HO2 : Off (lift0 g0) (w.heap.size + 1 + 1) := lift0_off (hI0.offs _ (by omega))
  have C3_W_0 := Lib.hid (show W.cell? ⟨w.heap.size + 1 + 1 + 1, 0, none⟩ = some (.int .i64 xd) by rw [hW]; simp [go_sem])
  have C3_W_1 := Lib.hid (show W.cell? ⟨w.heap.size + 1 + 1 + 1, 1, none⟩ = some (.int .i64 yd) by rw [hW]; simp [go_sem])
  have HO3 : Off (lift0 g0) (w.heap.size + 1 + 1 + 1) := lift0_off (hI0.offs _ (by omega))
  have HW := Lib.hid hW
  clear hW
  go_enter Tryz.func99, Tryz.ntmps99
  go_upto_region 1 with (fail)
  rw [← HW.out]
  refine box_plan (c := ⟨w, W, (lift0 g0)⟩) HOK (by kernel_rfl) [[], [], [(12, 0), (13, 1)], [], [], [(15, 3), (16, 4)], [], [], [(18, 6), (19, 7)], [(14, 2), (17, 5), (20, 8)], [], [(9, 10), (21, 9)]] [(12, 0), (13, 1), (14, 2), (15, 3), (16, 4), (17, 5), (18, 6), (19, 7), (20, 8), (21, 9), (9, 10)] [
      (fun v _ _ => v = .agg #[.int .i64 xd, .int .i64 yd]),
      (fun v _ _ => v = .agg #[.int .i64 xa, .int .i64 ya]),
      VecL (xa - xd) (ya - yd),
      (fun v _ _ => v = .agg #[.int .i64 xd, .int .i64 yd]),
      (fun v _ _ => v = .agg #[.int .i64 xb, .int .i64 yb]),
      VecL (xb - xd) (yb - yd),
      (fun v _ _ => v = .agg #[.int .i64 xd, .int .i64 yd]),
      (fun v _ _ => v = .agg #[.int .i64 xc, .int .i64 yc]),
      VecL (xc - xd) (yc - yd),
      RowL (xa - xd) (ya - yd) (xb - xd) (yb - yd) (xc - xd) (yc - yd),
      PtrR 10 6,
      (fun _ g w => BoxR 10 (RowL (xa - xd) (ya - yd) (xb - xd) (yb - yd) (xc - xd) (yc - yd)) g w)
    ] (fun i => match i with | 10 => some 11 | _ => none) (by kernel_rfl) (by kernel_rfl) ⟨stab_eq, stab_eq, stab_firm (vecL_firm _ _), stab_eq, stab_eq, stab_firm (vecL_firm _ _), stab_eq, stab_eq, stab_firm (vecL_firm _ _), stab_firm (rowL_firm _ _ _ _ _ _), stab_ptr, stab_box (rowL_firm _ _ _ _ _ _) rfl, trivial⟩ ?steps ?fin
  case steps =>
    refine ⟨?_, ?_, ?_, ?_, ?_, ?_, ?_, ?_, ?_, ?_, ?_, ?_, trivial⟩
    · intro vs g w2 hI hF hR K hK
      simp only [Facts, fill, Act.put, z1, z2, z3, z4, z5, Nat.reduceAdd] at hF hR hK ⊢
      have k0 := hI.cell C3_W_0.out (by first | exact HO0 | exact HO1 | exact HO2 | exact HO3 | assumption)
      have k1 := hI.cell C3_W_1.out (by first | exact HO0 | exact HO1 | exact HO2 | exact HO3 | assumption)
      go_simp
      exact hK _ _ _ hI (Step.refl hI) rfl
    · intro vs g w2 hI hF hR K hK
      simp only [Facts, fill, Act.put, z1, z2, z3, z4, z5, Nat.reduceAdd] at hF hR hK ⊢
      have k0 := hI.cell C0_W_0.out (by first | exact HO0 | exact HO1 | exact HO2 | exact HO3 | assumption)
      have k1 := hI.cell C0_W_1.out (by first | exact HO0 | exact HO1 | exact HO2 | exact HO3 | assumption)
      go_simp
      exact hK _ _ _ hI (Step.refl hI) rfl
    · intro vs g w2 hI hF hR K hK
      simp only [Facts, fill, Act.put, z1, z2, z3, z4, z5, Nat.reduceAdd] at hF hR hK ⊢
      obtain ⟨r0, r1, -⟩ := hR
      generalize vs 0 = x0, vs 1 = x1 at *
      subst r0 r1
      go_simp
      refine (gBetween hI hw1 (by first | assumption | (unfold S; decide)) (by first | assumption | (unfold S; decide)) (by first | assumption | (unfold S; decide)) (by first | assumption | (unfold S; decide))).mono ?_
      rintro e w3 ⟨v3, rfl, hv, hb⟩
      exact hK _ _ _ (hI.call hb) (Step.call hI hb) hv
    · intro vs g w2 hI hF hR K hK
      simp only [Facts, fill, Act.put, z1, z2, z3, z4, z5, Nat.reduceAdd] at hF hR hK ⊢
      have k0 := hI.cell C3_W_0.out (by first | exact HO0 | exact HO1 | exact HO2 | exact HO3 | assumption)
      have k1 := hI.cell C3_W_1.out (by first | exact HO0 | exact HO1 | exact HO2 | exact HO3 | assumption)
      go_simp
      exact hK _ _ _ hI (Step.refl hI) rfl
    · intro vs g w2 hI hF hR K hK
      simp only [Facts, fill, Act.put, z1, z2, z3, z4, z5, Nat.reduceAdd] at hF hR hK ⊢
      have k0 := hI.cell C1_W_0.out (by first | exact HO0 | exact HO1 | exact HO2 | exact HO3 | assumption)
      have k1 := hI.cell C1_W_1.out (by first | exact HO0 | exact HO1 | exact HO2 | exact HO3 | assumption)
      go_simp
      exact hK _ _ _ hI (Step.refl hI) rfl
    · intro vs g w2 hI hF hR K hK
      simp only [Facts, fill, Act.put, z1, z2, z3, z4, z5, Nat.reduceAdd] at hF hR hK ⊢
      obtain ⟨r3, r4, -⟩ := hR
      generalize vs 3 = x3, vs 4 = x4 at *
      subst r3 r4
      go_simp
      refine (gBetween hI hw1 (by first | assumption | (unfold S; decide)) (by first | assumption | (unfold S; decide)) (by first | assumption | (unfold S; decide)) (by first | assumption | (unfold S; decide))).mono ?_
      rintro e w3 ⟨v3, rfl, hv, hb⟩
      exact hK _ _ _ (hI.call hb) (Step.call hI hb) hv
    · intro vs g w2 hI hF hR K hK
      simp only [Facts, fill, Act.put, z1, z2, z3, z4, z5, Nat.reduceAdd] at hF hR hK ⊢
      have k0 := hI.cell C3_W_0.out (by first | exact HO0 | exact HO1 | exact HO2 | exact HO3 | assumption)
      have k1 := hI.cell C3_W_1.out (by first | exact HO0 | exact HO1 | exact HO2 | exact HO3 | assumption)
      go_simp
      exact hK _ _ _ hI (Step.refl hI) rfl
    · intro vs g w2 hI hF hR K hK
      simp only [Facts, fill, Act.put, z1, z2, z3, z4, z5, Nat.reduceAdd] at hF hR hK ⊢
      have k0 := hI.cell C2_W_0.out (by first | exact HO0 | exact HO1 | exact HO2 | exact HO3 | assumption)
      have k1 := hI.cell C2_W_1.out (by first | exact HO0 | exact HO1 | exact HO2 | exact HO3 | assumption)
      go_simp
      exact hK _ _ _ hI (Step.refl hI) rfl
    · intro vs g w2 hI hF hR K hK
      simp only [Facts, fill, Act.put, z1, z2, z3, z4, z5, Nat.reduceAdd] at hF hR hK ⊢
      obtain ⟨r6, r7, -⟩ := hR
      generalize vs 6 = x6, vs 7 = x7 at *
      subst r6 r7
      go_simp
      refine (gBetween hI hw1 (by first | assumption | (unfold S; decide)) (by first | assumption | (unfold S; decide)) (by first | assumption | (unfold S; decide)) (by first | assumption | (unfold S; decide))).mono ?_
      rintro e w3 ⟨v3, rfl, hv, hb⟩
      exact hK _ _ _ (hI.call hb) (Step.call hI hb) hv
    · intro vs g w2 hI hF hR K hK
      simp only [Facts, fill, Act.put, z1, z2, z3, z4, z5, Nat.reduceAdd] at hF hR hK ⊢
      obtain ⟨r2, r5, r8, -⟩ := hR
      generalize vs 2 = x2, vs 5 = x5, vs 8 = x8 at *
      have q0 := r2
      have q1 := r5
      have q2 := r8
      obtain ⟨A0, c0, B0, d0, rfl⟩ := vecL_open r2
      obtain ⟨A1, c1, B1, d1, rfl⟩ := vecL_open r5
      obtain ⟨A2, c2, B2, d2, rfl⟩ := vecL_open r8
      go_simp
      exact hK _ _ _ hI (Step.refl hI) (rowL_mk q0 q1 q2)
    · intro vs g w2 hI hF hR K hK
      simp only [Facts, fill, Act.put, z1, z2, z3, z4, z5, Nat.reduceAdd] at hF hR hK ⊢
      go_simp
      exact hK _ _ _ (hI.alloc _ (hF (by decide)) _) (Step.alloc hI (hF (by decide)) _) ⟨_, rfl, more_at _ _ _, box6' _ _ _ _ _ _ _ _⟩
    · intro vs g w2 hI hF hR K hK
      simp only [Facts, fill, Act.put, z1, z2, z3, z4, z5, Nat.reduceAdd] at hF hR hK ⊢
      obtain ⟨r10, r9, -⟩ := hR
      generalize vs 10 = x10, vs 9 = x9 at *
      obtain ⟨k, rfl, hk, hbx⟩ := r10
      have qx := r9
      obtain ⟨A11_0, c11_0, B11_0, d11_0, A11_1, c11_1, B11_1, d11_1, A11_2, c11_2, B11_2, d11_2, rfl⟩ := rowL_open r9
      obtain ⟨⟨u0, k0⟩, f0⟩ := hbx 0 (by decide)
      obtain ⟨⟨u1, k1⟩, f1⟩ := hbx 1 (by decide)
      obtain ⟨⟨u2, k2⟩, f2⟩ := hbx 2 (by decide)
      obtain ⟨⟨u3, k3⟩, f3⟩ := hbx 3 (by decide)
      obtain ⟨⟨u4, k4⟩, f4⟩ := hbx 4 (by decide)
      obtain ⟨⟨u5, k5⟩, f5⟩ := hbx 5 (by decide)
      go_simp
      have ht := (((((((Touch.refl w2 k).set 0 (.slice A11_0 2 c11_0)).set 1 (.slice B11_0 2 d11_0)).set 2 (.slice A11_1 2 c11_1)).set 3 (.slice B11_1 2 d11_1)).set 4 (.slice A11_2 2 c11_2)).set 5 (.slice B11_2 2 d11_2))
      exact hK undef _ _ (hI.store (by decide) hk ht) (Step.store hI rfl hk ht) ⟨k, .agg #[.slice A11_0 2 c11_0, .slice B11_0 2 d11_0, .slice A11_1 2 c11_1, .slice B11_1 2 d11_1, .slice A11_2 2 c11_2, .slice B11_2 2 d11_2], hk, by rw [ht.size]; exact hI.lt _ _ hk, cells6 k0 k1 k2 k3 k4 k5 (.slice A11_0 2 c11_0) (.slice B11_0 2 d11_0) (.slice A11_1 2 c11_1) (.slice B11_1 2 d11_1) (.slice A11_2 2 c11_2) (.slice B11_2 2 d11_2), ((rowL_firm _ _ _ _ _ _) _ _ _ _ _ qx (ht.keeps hk))⟩
  case fin =>
    intro vs g wR1 hI hR
    have r10 := hR 10 (by decide)
    have r11 := hR 11 (by decide)
    simp only [fill, Act.put, z1, z2, z3, z4, z5] at r10 r11 ⊢
    clear hR
    generalize vs 10 = x10 at *
    generalize vs 11 = x11 at *
    have C0_R1_0 := Lib.hid (hI.cell C0_W_0.out (by first | exact HO0 | exact HO1 | exact HO2 | exact HO3 | assumption))
    have C0_R1_1 := Lib.hid (hI.cell C0_W_1.out (by first | exact HO0 | exact HO1 | exact HO2 | exact HO3 | assumption))
    have C1_R1_0 := Lib.hid (hI.cell C1_W_0.out (by first | exact HO0 | exact HO1 | exact HO2 | exact HO3 | assumption))
    have C1_R1_1 := Lib.hid (hI.cell C1_W_1.out (by first | exact HO0 | exact HO1 | exact HO2 | exact HO3 | assumption))
    have C2_R1_0 := Lib.hid (hI.cell C2_W_0.out (by first | exact HO0 | exact HO1 | exact HO2 | exact HO3 | assumption))
    have C2_R1_1 := Lib.hid (hI.cell C2_W_1.out (by first | exact HO0 | exact HO1 | exact HO2 | exact HO3 | assumption))
    have C3_R1_0 := Lib.hid (hI.cell C3_W_0.out (by first | exact HO0 | exact HO1 | exact HO2 | exact HO3 | assumption))
    have C3_R1_1 := Lib.hid (hI.cell C3_W_1.out (by first | exact HO0 | exact HO1 | exact HO2 | exact HO3 | assumption))
    obtain ⟨pR19, rfl, hkR19, -⟩ := r10
    have HO_R19 : Off (lift0 g0) pR19 := hI.off_new HOK (by decide) hkR19
    obtain ⟨qR19, uR19, hqR19, -, hcR19, hrR19⟩ := r11
    rw [hkR19] at hqR19
    injection hqR19 with hqR19
    subst hqR19
    have qfR19 := hrR19
    obtain ⟨AvR19_0, cvR19_0, BvR19_0, dvR19_0, AvR19_1, cvR19_1, BvR19_1, dvR19_1, AvR19_2, cvR19_2, BvR19_2, dvR19_2, rfl⟩ := rowL_open hrR19
    have FR19_R1_0 := Lib.hid ((rowL_firm _ _ _ _ _ _) _ _ _ _ _ qfR19 hI.back)
    clear qfR19
    have CR19_R1_0 := Lib.hid (hcR19 0 _ rfl)
    have CR19_R1_1 := Lib.hid (hcR19 1 _ rfl)
    have CR19_R1_2 := Lib.hid (hcR19 2 _ rfl)
    have CR19_R1_3 := Lib.hid (hcR19 3 _ rfl)
    have CR19_R1_4 := Lib.hid (hcR19 4 _ rfl)
    have CR19_R1_5 := Lib.hid (hcR19 5 _ rfl)
    clear hcR19 hkR19
    have hBR1 := hI.below
    have HCR1 := hI.next HOK
    clear hI
    go_upto_region 2 with (fail)
    refine box_plan0 (c := ⟨w, wR1, (lift0 g0)⟩) HCR1 [[], [(22, 0)]] [(22, 0), (10, 1)] [
        LimR 5 0,
        LimR 5 0
      ] (fun _ => none) (by kernel_rfl) (by kernel_rfl) ⟨stab_firm (limR_firm _ _), stab_firm (limR_firm _ _), trivial⟩ ?steps ?fin
    case steps =>
      refine ⟨?_, ?_, trivial⟩
      · intro vs g w2 hI hF hR K hK
        simp only [Facts, fill, Act.put, z1, z2, z3, z4, z5, Nat.reduceAdd] at hF hR hK ⊢
        go_simp
        refine (gLimFrom (n := 5) hI hw1 (by first | assumption | (unfold S; decide)) (by decide) (by decide)).mono ?_
        rintro e w3 ⟨v3, rfl, hv, hb⟩
        exact hK _ _ _ (hI.call hb) (Step.call hI hb) hv
      · intro vs g w2 hI hF hR K hK
        simp only [Facts, fill, Act.put, z1, z2, z3, z4, z5, Nat.reduceAdd] at hF hR hK ⊢
        obtain ⟨r0, -⟩ := hR
        generalize vs 0 = x0 at *
        go_simp
        exact hK _ _ _ hI (Step.refl hI) r0
    case fin =>
      intro vs g wR2 hI hR
      have r1 := hR 1 (by decide)
      simp only [fill, Act.put, z1, z2, z3, z4, z5] at r1 ⊢
      clear hR
      generalize vs 1 = x1 at *
      have C0_R2_0 := Lib.hid (hI.cell C0_R1_0.out (by first | exact HO0 | exact HO1 | exact HO2 | exact HO3 | exact HO_R19 | assumption))
      have C0_R2_1 := Lib.hid (hI.cell C0_R1_1.out (by first | exact HO0 | exact HO1 | exact HO2 | exact HO3 | exact HO_R19 | assumption))
      have C1_R2_0 := Lib.hid (hI.cell C1_R1_0.out (by first | exact HO0 | exact HO1 | exact HO2 | exact HO3 | exact HO_R19 | assumption))
      have C1_R2_1 := Lib.hid (hI.cell C1_R1_1.out (by first | exact HO0 | exact HO1 | exact HO2 | exact HO3 | exact HO_R19 | assumption))
      have C2_R2_0 := Lib.hid (hI.cell C2_R1_0.out (by first | exact HO0 | exact HO1 | exact HO2 | exact HO3 | exact HO_R19 | assumption))
      have C2_R2_1 := Lib.hid (hI.cell C2_R1_1.out (by first | exact HO0 | exact HO1 | exact HO2 | exact HO3 | exact HO_R19 | assumption))
      have C3_R2_0 := Lib.hid (hI.cell C3_R1_0.out (by first | exact HO0 | exact HO1 | exact HO2 | exact HO3 | exact HO_R19 | assumption))
      have C3_R2_1 := Lib.hid (hI.cell C3_R1_1.out (by first | exact HO0 | exact HO1 | exact HO2 | exact HO3 | exact HO_R19 | assumption))
      have CR19_R2_0 := Lib.hid (hI.cell CR19_R1_0.out (by first | exact HO0 | exact HO1 | exact HO2 | exact HO3 | exact HO_R19 | assumption))
      have CR19_R2_1 := Lib.hid (hI.cell CR19_R1_1.out (by first | exact HO0 | exact HO1 | exact HO2 | exact HO3 | exact HO_R19 | assumption))
      have CR19_R2_2 := Lib.hid (hI.cell CR19_R1_2.out (by first | exact HO0 | exact HO1 | exact HO2 | exact HO3 | exact HO_R19 | assumption))
      have CR19_R2_3 := Lib.hid (hI.cell CR19_R1_3.out (by first | exact HO0 | exact HO1 | exact HO2 | exact HO3 | exact HO_R19 | assumption))
      have CR19_R2_4 := Lib.hid (hI.cell CR19_R1_4.out (by first | exact HO0 | exact HO1 | exact HO2 | exact HO3 | exact HO_R19 | assumption))
      have CR19_R2_5 := Lib.hid (hI.cell CR19_R1_5.out (by first | exact HO0 | exact HO1 | exact HO2 | exact HO3 | exact HO_R19 | assumption))
      have FR19_R2_0 := Lib.hid ((rowL_firm _ _ _ _ _ _) _ _ _ _ _ FR19_R1_0.out hI.carry)
      have qfR210 := r1
      obtain ⟨AvR210, cvR210, rfl⟩ := limR_open r1
      have FR210_R2_0 := Lib.hid ((limR_firm _ _) _ _ _ _ _ qfR210 hI.back)
      clear qfR210
      have hBR2 := hI.below
      have HCR2 := hI.next HCR1
      clear hI
      go_wp2
      go_loopw [10, 23] (fun s i wr => CirRel w (lift0 g0) pR19 xa ya xb yb xc yc xd yd AvR19_0 BvR19_0 AvR19_1 BvR19_1 AvR19_2 BvR19_2 cvR19_0 dvR19_0 cvR19_1 dvR19_1 cvR19_2 dvR19_2 s i wr) (fun _ i _ => 3 - (intOf i).toNat)
      case atStart => exact ⟨0, rfl, by omega, FR210_R2_0.out, FR19_R2_0.out, HCR2, CR19_R2_0.out, CR19_R2_1.out, CR19_R2_2.out, CR19_R2_3.out, CR19_R2_4.out, CR19_R2_5.out⟩
      case round =>
        obtain ⟨k, rfl, hk, hs, hrow, hok, d0, d1, d2, d3, d4, d5⟩ := hrel
        clear CR19_R2_0 CR19_R2_1 CR19_R2_2 CR19_R2_3 CR19_R2_4 CR19_R2_5 FR19_R2_0 FR210_R2_0 HCR2 hBR2
        have Cp_wr_0 := Lib.hid d0
        have Cp_wr_1 := Lib.hid d1
        have Cp_wr_2 := Lib.hid d2
        have Cp_wr_3 := Lib.hid d3
        have Cp_wr_4 := Lib.hid d4
        have Cp_wr_5 := Lib.hid d5
        have Fp_wr_0 := Lib.hid hrow
        have HCr := Lib.hid hok
        have hbr := hok.below
        clear hrow hok d0 d1 d2 d3 d4 d5
        have hks : k = 0 ∨ k = 1 ∨ k = 2 ∨ k = 3 := by omega
        rcases hks with rfl | rfl | rfl | rfl
        · have hs2 : LimR 5 (0) _ _ _ := hs
          obtain ⟨As, cs, rfl⟩ := limR_open hs
          have Fs_wr_0 := Lib.hid hs2
          clear hs hs2
          have HCr2 := HCr.out
          have k0 := Cp_wr_0.out
          have k1 := Cp_wr_1.out
          have k2 := Cp_wr_2.out
          have k3 := Cp_wr_3.out
          have k4 := Cp_wr_4.out
          have k5 := Cp_wr_5.out
          have hI := RInv.start0 HCr2
          go_wp2_with (fail)
          refine (gContr0 hI hw1 Fp_wr_0.out sxa sya sxb syb sxc syc sxd syd).mono ?_
          rintro e w3 ⟨v3, rfl, hv, hb⟩
          have hI3 := hI.call hb
          have HV := Lib.hid hv
          clear hv k0 k1 k2 k3 k4 k5
          go_wp2_with (fail)
          refine (gLimAdd hI3 hw1 ((limR_firm _ _) _ _ _ _ _ Fs_wr_0.out hI3.keeps) HV.out (by decide) (by decide)).mono ?_
          rintro e w4 ⟨v4, rfl, hv4, hb4⟩
          have hI4 := hI3.call hb4
          have HV4 := Lib.hid hv4
          clear hv4
          go_wp2
          go_roundw
          case rel => exact ⟨1, rfl, by omega, HV4.out, (rowL_firm _ _ _ _ _ _) _ _ _ _ _ Fp_wr_0.out hI4.carry, hI4.next HCr2, hI4.cell Cp_wr_0.out (by assumption), hI4.cell Cp_wr_1.out (by assumption), hI4.cell Cp_wr_2.out (by assumption), hI4.cell Cp_wr_3.out (by assumption), hI4.cell Cp_wr_4.out (by assumption), hI4.cell Cp_wr_5.out (by assumption)⟩
          case measure => simp [intOf]
        · have hs2 : LimR 5 (0 + (((xa - xd) * (xa - xd) + (ya - yd) * (ya - yd)) * ((xb - xd) * (yc - yd) - (yb - yd) * (xc - xd)))) _ _ _ := hs
          obtain ⟨As, cs, rfl⟩ := limR_open hs
          have Fs_wr_0 := Lib.hid hs2
          clear hs hs2
          have HCr2 := HCr.out
          have k0 := Cp_wr_0.out
          have k1 := Cp_wr_1.out
          have k2 := Cp_wr_2.out
          have k3 := Cp_wr_3.out
          have k4 := Cp_wr_4.out
          have k5 := Cp_wr_5.out
          have hI := RInv.start0 HCr2
          go_wp2_with (fail)
          refine (gContr1 hI hw1 Fp_wr_0.out sxa sya sxb syb sxc syc sxd syd).mono ?_
          rintro e w3 ⟨v3, rfl, hv, hb⟩
          have hI3 := hI.call hb
          have HV := Lib.hid hv
          clear hv k0 k1 k2 k3 k4 k5
          go_wp2_with (fail)
          refine (gLimAdd hI3 hw1 ((limR_firm _ _) _ _ _ _ _ Fs_wr_0.out hI3.keeps) HV.out (by decide) (by decide)).mono ?_
          rintro e w4 ⟨v4, rfl, hv4, hb4⟩
          have hI4 := hI3.call hb4
          have HV4 := Lib.hid hv4
          clear hv4
          go_wp2
          go_roundw
          case rel => exact ⟨2, rfl, by omega, HV4.out, (rowL_firm _ _ _ _ _ _) _ _ _ _ _ Fp_wr_0.out hI4.carry, hI4.next HCr2, hI4.cell Cp_wr_0.out (by assumption), hI4.cell Cp_wr_1.out (by assumption), hI4.cell Cp_wr_2.out (by assumption), hI4.cell Cp_wr_3.out (by assumption), hI4.cell Cp_wr_4.out (by assumption), hI4.cell Cp_wr_5.out (by assumption)⟩
          case measure => simp [intOf]
        · have hs2 : LimR 5 ((0 + (((xa - xd) * (xa - xd) + (ya - yd) * (ya - yd)) * ((xb - xd) * (yc - yd) - (yb - yd) * (xc - xd)))) + (((xb - xd) * (xb - xd) + (yb - yd) * (yb - yd)) * ((xc - xd) * (ya - yd) - (yc - yd) * (xa - xd)))) _ _ _ := hs
          obtain ⟨As, cs, rfl⟩ := limR_open hs
          have Fs_wr_0 := Lib.hid hs2
          clear hs hs2
          have HCr2 := HCr.out
          have k0 := Cp_wr_0.out
          have k1 := Cp_wr_1.out
          have k2 := Cp_wr_2.out
          have k3 := Cp_wr_3.out
          have k4 := Cp_wr_4.out
          have k5 := Cp_wr_5.out
          have hI := RInv.start0 HCr2
          go_wp2_with (fail)
          refine (gContr2 hI hw1 Fp_wr_0.out sxa sya sxb syb sxc syc sxd syd).mono ?_
          rintro e w3 ⟨v3, rfl, hv, hb⟩
          have hI3 := hI.call hb
          have HV := Lib.hid hv
          clear hv k0 k1 k2 k3 k4 k5
          go_wp2_with (fail)
          refine (gLimAdd hI3 hw1 ((limR_firm _ _) _ _ _ _ _ Fs_wr_0.out hI3.keeps) HV.out (by decide) (by decide)).mono ?_
          rintro e w4 ⟨v4, rfl, hv4, hb4⟩
          have hI4 := hI3.call hb4
          have HV4 := Lib.hid hv4
          clear hv4
          go_wp2
          go_roundw
          case rel => exact ⟨3, rfl, by omega, HV4.out, (rowL_firm _ _ _ _ _ _) _ _ _ _ _ Fp_wr_0.out hI4.carry, hI4.next HCr2, hI4.cell Cp_wr_0.out (by assumption), hI4.cell Cp_wr_1.out (by assumption), hI4.cell Cp_wr_2.out (by assumption), hI4.cell Cp_wr_3.out (by assumption), hI4.cell Cp_wr_4.out (by assumption), hI4.cell Cp_wr_5.out (by assumption)⟩
          case measure => simp [intOf]
        · have hs2 : LimR 5 (((0 + (((xa - xd) * (xa - xd) + (ya - yd) * (ya - yd)) * ((xb - xd) * (yc - yd) - (yb - yd) * (xc - xd)))) + (((xb - xd) * (xb - xd) + (yb - yd) * (yb - yd)) * ((xc - xd) * (ya - yd) - (yc - yd) * (xa - xd)))) + (((xc - xd) * (xc - xd) + (yc - yd) * (yc - yd)) * ((xa - xd) * (yb - yd) - (ya - yd) * (xb - xd)))) _ _ _ := hs
          obtain ⟨As, cs, rfl⟩ := limR_open hs
          have Fs_wr_0 := Lib.hid hs2
          clear hs hs2
          have HCr2 := HCr.out
          go_upto_region 8 with (fail)
          refine box_plan0 (c := ⟨w, wr, (lift0 g0)⟩) HCr2 [[], [(32, 0)]] [(32, 0), (8, 1)] [
              (fun v _ _ => v = .slice As 5 cs),
              (fun v _ _ => v = .slice As 5 cs)
            ] (fun _ => none) (by kernel_rfl) (by kernel_rfl) ⟨stab_eq, stab_eq, trivial⟩ ?steps ?fin
          case steps =>
            refine ⟨?_, ?_, trivial⟩
            · intro vs g w2 hI hF hR K hK
              simp only [Facts, fill, Act.put, z1, z2, z3, z4, z5, Nat.reduceAdd] at hF hR hK ⊢
              go_simp
              exact hK _ _ _ hI (Step.refl hI) rfl
            · intro vs g w2 hI hF hR K hK
              simp only [Facts, fill, Act.put, z1, z2, z3, z4, z5, Nat.reduceAdd] at hF hR hK ⊢
              obtain ⟨r0, -⟩ := hR
              generalize vs 0 = x0 at *
              subst r0
              go_simp
              exact hK _ _ _ hI (Step.refl hI) rfl
          case fin =>
            intro vs g wR8 hI hR
            have r1 := hR 1 (by decide)
            simp only [fill, Act.put, z1, z2, z3, z4, z5] at r1 ⊢
            clear hR
            generalize vs 1 = x1 at *
            have Cp_R8_0 := Lib.hid (hI.cell Cp_wr_0.out (by first | exact HO0 | exact HO1 | exact HO2 | exact HO3 | exact HO_R19 | assumption))
            have Cp_R8_1 := Lib.hid (hI.cell Cp_wr_1.out (by first | exact HO0 | exact HO1 | exact HO2 | exact HO3 | exact HO_R19 | assumption))
            have Cp_R8_2 := Lib.hid (hI.cell Cp_wr_2.out (by first | exact HO0 | exact HO1 | exact HO2 | exact HO3 | exact HO_R19 | assumption))
            have Cp_R8_3 := Lib.hid (hI.cell Cp_wr_3.out (by first | exact HO0 | exact HO1 | exact HO2 | exact HO3 | exact HO_R19 | assumption))
            have Cp_R8_4 := Lib.hid (hI.cell Cp_wr_4.out (by first | exact HO0 | exact HO1 | exact HO2 | exact HO3 | exact HO_R19 | assumption))
            have Cp_R8_5 := Lib.hid (hI.cell Cp_wr_5.out (by first | exact HO0 | exact HO1 | exact HO2 | exact HO3 | exact HO_R19 | assumption))
            have Fp_R8_0 := Lib.hid ((rowL_firm _ _ _ _ _ _) _ _ _ _ _ Fp_wr_0.out hI.carry)
            have Fs_R8_0 := Lib.hid ((limR_firm _ _) _ _ _ _ _ Fs_wr_0.out hI.carry)
            subst r1
            have FR88_R8_0 := Lib.hid ((limR_firm _ _) _ _ _ _ _ Fs_wr_0.out hI.carry)
            have hBR8 := hI.below
            have HCR8 := hI.next HCr2
            clear hI
            go_wp2
            go_ret
            exact ⟨_, rfl, limR_cast (con_lc xa ya xb yb xc yc xd yd) (limR_firm _ _ _ _ _ _ _ FR88_R8_0.out keeps_out0), hBR8⟩
set_option maxRecDepth 100000 in
set_option maxHeartbeats 4000000 in
theorem gCircleSign {c0 : Ctx} {g0 : Gh} {w : World} {xa ya xb yb xc yc xd yd : Int} (hI0 : RInv c0 g0 w) (hw : Wts c0.W0) (sxa : S xa) (sya : S ya) (sxb : S xb) (syb : S yb) (sxc : S xc) (syc : S yc) (sxd : S xd) (syd : S yd) :
    Calls Tryz.prog 84 #[.agg #[.int .i64 xa, .int .i64 ya], .agg #[.int .i64 xb, .int .i64 yb], .agg #[.int .i64 xc, .int .i64 yc], .agg #[.int .i64 xd, .int .i64 yd]] w (Gives (SignR (lc xa ya xb yb xc yc xd yd)) g0 w) := by
  have hw1 := hw.below hI0.below
  obtain ⟨W, hW⟩ : ∃ W, W = (((w.alloc (.cells #[.int .i64 xa, .int .i64 ya] 24)).alloc (.cells #[.int .i64 xb, .int .i64 yb] 24)).alloc (.cells #[.int .i64 xc, .int .i64 yc] 24)).alloc (.cells #[.int .i64 xd, .int .i64 yd] 24) := ⟨_, rfl⟩
  have hb0 : Below w.heap.size w W := by rw [hW]; exact (((((Below.refl _ _).alloc (Nat.le_refl _) _).alloc (by simp) _).alloc (by simp; omega) _).alloc (by simp; omega) _)
  have HOK := Ctx.ok_lift0 hI0 hb0
  have C0_W_0 := Lib.hid (show W.cell? ⟨w.heap.size, 0, none⟩ = some (.int .i64 xa) by rw [hW]; simp [go_sem])
  have C0_W_1 := Lib.hid (show W.cell? ⟨w.heap.size, 1, none⟩ = some (.int .i64 ya) by rw [hW]; simp [go_sem])
  have HO0 : Off (lift0 g0) (w.heap.size) := lift0_off (hI0.offs _ (by omega))
  have C1_W_0 := Lib.hid (show W.cell? ⟨w.heap.size + 1, 0, none⟩ = some (.int .i64 xb) by rw [hW]; simp [go_sem])
  have C1_W_1 := Lib.hid (show W.cell? ⟨w.heap.size + 1, 1, none⟩ = some (.int .i64 yb) by rw [hW]; simp [go_sem])
  have HO1 : Off (lift0 g0) (w.heap.size + 1) := lift0_off (hI0.offs _ (by omega))
  have C2_W_0 := Lib.hid (show W.cell? ⟨w.heap.size + 1 + 1, 0, none⟩ = some (.int .i64 xc) by rw [hW]; simp [go_sem])
  have C2_W_1 := Lib.hid (show W.cell? ⟨w.heap.size + 1 + 1, 1, none⟩ = some (.int .i64 yc) by rw [hW]; simp [go_sem])
  have HO2 : Off (lift0 g0) (w.heap.size + 1 + 1) := lift0_off (hI0.offs _ (by omega))
  have C3_W_0 := Lib.hid (show W.cell? ⟨w.heap.size + 1 + 1 + 1, 0, none⟩ = some (.int .i64 xd) by rw [hW]; simp [go_sem])
  have C3_W_1 := Lib.hid (show W.cell? ⟨w.heap.size + 1 + 1 + 1, 1, none⟩ = some (.int .i64 yd) by rw [hW]; simp [go_sem])
  have HO3 : Off (lift0 g0) (w.heap.size + 1 + 1 + 1) := lift0_off (hI0.offs _ (by omega))
  have HW := Lib.hid hW
  clear hW
  go_enter Tryz.func84, Tryz.ntmps84
  go_upto_region 1 with (fail)
  rw [← HW.out]
  refine box_plan0 (c := ⟨w, W, (lift0 g0)⟩) HOK [[], [], [], [], [(9, 0), (10, 1), (11, 2), (12, 3)], [(13, 4)], [(14, 5)]] [(9, 0), (10, 1), (11, 2), (12, 3), (13, 4), (14, 5), (8, 6)] [
      (fun v _ _ => v = .agg #[.int .i64 xa, .int .i64 ya]),
      (fun v _ _ => v = .agg #[.int .i64 xb, .int .i64 yb]),
      (fun v _ _ => v = .agg #[.int .i64 xc, .int .i64 yc]),
      (fun v _ _ => v = .agg #[.int .i64 xd, .int .i64 yd]),
      LimR 5 (lc xa ya xb yb xc yc xd yd),
      SignR (lc xa ya xb yb xc yc xd yd),
      SignR (lc xa ya xb yb xc yc xd yd)
    ] (fun _ => none) (by kernel_rfl) (by kernel_rfl) ⟨stab_eq, stab_eq, stab_eq, stab_eq, stab_firm (limR_firm _ _), stab_firm (signR_firm _), stab_firm (signR_firm _), trivial⟩ ?steps ?fin
  case steps =>
    refine ⟨?_, ?_, ?_, ?_, ?_, ?_, ?_, trivial⟩
    · intro vs g w2 hI hF hR K hK
      simp only [Facts, fill, Act.put, z1, z2, z3, z4, z5, Nat.reduceAdd] at hF hR hK ⊢
      have k0 := hI.cell C0_W_0.out (by first | exact HO0 | exact HO1 | exact HO2 | exact HO3 | assumption)
      have k1 := hI.cell C0_W_1.out (by first | exact HO0 | exact HO1 | exact HO2 | exact HO3 | assumption)
      go_simp
      exact hK _ _ _ hI (Step.refl hI) rfl
    · intro vs g w2 hI hF hR K hK
      simp only [Facts, fill, Act.put, z1, z2, z3, z4, z5, Nat.reduceAdd] at hF hR hK ⊢
      have k0 := hI.cell C1_W_0.out (by first | exact HO0 | exact HO1 | exact HO2 | exact HO3 | assumption)
      have k1 := hI.cell C1_W_1.out (by first | exact HO0 | exact HO1 | exact HO2 | exact HO3 | assumption)
      go_simp
      exact hK _ _ _ hI (Step.refl hI) rfl
    · intro vs g w2 hI hF hR K hK
      simp only [Facts, fill, Act.put, z1, z2, z3, z4, z5, Nat.reduceAdd] at hF hR hK ⊢
      have k0 := hI.cell C2_W_0.out (by first | exact HO0 | exact HO1 | exact HO2 | exact HO3 | assumption)
      have k1 := hI.cell C2_W_1.out (by first | exact HO0 | exact HO1 | exact HO2 | exact HO3 | assumption)
      go_simp
      exact hK _ _ _ hI (Step.refl hI) rfl
    · intro vs g w2 hI hF hR K hK
      simp only [Facts, fill, Act.put, z1, z2, z3, z4, z5, Nat.reduceAdd] at hF hR hK ⊢
      have k0 := hI.cell C3_W_0.out (by first | exact HO0 | exact HO1 | exact HO2 | exact HO3 | assumption)
      have k1 := hI.cell C3_W_1.out (by first | exact HO0 | exact HO1 | exact HO2 | exact HO3 | assumption)
      go_simp
      exact hK _ _ _ hI (Step.refl hI) rfl
    · intro vs g w2 hI hF hR K hK
      simp only [Facts, fill, Act.put, z1, z2, z3, z4, z5, Nat.reduceAdd] at hF hR hK ⊢
      obtain ⟨r0, r1, r2, r3, -⟩ := hR
      generalize vs 0 = x0, vs 1 = x1, vs 2 = x2, vs 3 = x3 at *
      subst r0 r1 r2 r3
      go_simp
      refine (gCircleValue hI hw1 (by first | assumption | (unfold S; decide)) (by first | assumption | (unfold S; decide)) (by first | assumption | (unfold S; decide)) (by first | assumption | (unfold S; decide)) (by first | assumption | (unfold S; decide)) (by first | assumption | (unfold S; decide)) (by first | assumption | (unfold S; decide)) (by first | assumption | (unfold S; decide))).mono ?_
      rintro e w3 ⟨v3, rfl, hv, hb⟩
      exact hK _ _ _ (hI.call hb) (Step.call hI hb) hv
    · intro vs g w2 hI hF hR K hK
      simp only [Facts, fill, Act.put, z1, z2, z3, z4, z5, Nat.reduceAdd] at hF hR hK ⊢
      obtain ⟨r4, -⟩ := hR
      generalize vs 4 = x4 at *
      go_simp
      refine (gLimSign hI hw1 r4 (Fit.sv (lc_fit (by first | assumption | (unfold S; decide)) (by first | assumption | (unfold S; decide)) (by first | assumption | (unfold S; decide)) (by first | assumption | (unfold S; decide)) (by first | assumption | (unfold S; decide)) (by first | assumption | (unfold S; decide)) (by first | assumption | (unfold S; decide)) (by first | assumption | (unfold S; decide)))) (by decide) (by decide)).mono ?_
      rintro e w3 ⟨v3, rfl, hv, hb⟩
      exact hK _ _ _ (hI.call hb) (Step.call hI hb) hv
    · intro vs g w2 hI hF hR K hK
      simp only [Facts, fill, Act.put, z1, z2, z3, z4, z5, Nat.reduceAdd] at hF hR hK ⊢
      obtain ⟨r5, -⟩ := hR
      generalize vs 5 = x5 at *
      go_simp
      exact hK _ _ _ hI (Step.refl hI) r5
  case fin =>
    intro vs g wR1 hI hR
    have r6 := hR 6 (by decide)
    simp only [fill, Act.put, z1, z2, z3, z4, z5] at r6 ⊢
    clear hR
    generalize vs 6 = x6 at *
    have C0_R1_0 := Lib.hid (hI.cell C0_W_0.out (by first | exact HO0 | exact HO1 | exact HO2 | exact HO3 | assumption))
    have C0_R1_1 := Lib.hid (hI.cell C0_W_1.out (by first | exact HO0 | exact HO1 | exact HO2 | exact HO3 | assumption))
    have C1_R1_0 := Lib.hid (hI.cell C1_W_0.out (by first | exact HO0 | exact HO1 | exact HO2 | exact HO3 | assumption))
    have C1_R1_1 := Lib.hid (hI.cell C1_W_1.out (by first | exact HO0 | exact HO1 | exact HO2 | exact HO3 | assumption))
    have C2_R1_0 := Lib.hid (hI.cell C2_W_0.out (by first | exact HO0 | exact HO1 | exact HO2 | exact HO3 | assumption))
    have C2_R1_1 := Lib.hid (hI.cell C2_W_1.out (by first | exact HO0 | exact HO1 | exact HO2 | exact HO3 | assumption))
    have C3_R1_0 := Lib.hid (hI.cell C3_W_0.out (by first | exact HO0 | exact HO1 | exact HO2 | exact HO3 | assumption))
    have C3_R1_1 := Lib.hid (hI.cell C3_W_1.out (by first | exact HO0 | exact HO1 | exact HO2 | exact HO3 | assumption))
    have qfR18 := r6
    obtain ⟨svR18, rfl, -⟩ := signR_open r6
    have FR18_R1_0 := Lib.hid ((signR_firm _) _ _ _ _ _ qfR18 hI.back)
    clear qfR18
    have hBR1 := hI.below
    have HCR1 := hI.next HOK
    clear hI
    go_wp2
    go_ret
    exact ⟨_, rfl, (signR_firm _) _ _ _ _ _ FR18_R1_0.out keeps_out0, hBR1⟩
set_option maxRecDepth 100000 in
set_option maxHeartbeats 4000000 in
theorem gCircleSide {c0 : Ctx} {g0 : Gh} {w : World} {xa ya xb yb xc yc xd yd : Int} (hI0 : RInv c0 g0 w) (hw : Wts c0.W0) (sxa : S xa) (sya : S ya) (sxb : S xb) (syb : S yb) (sxc : S xc) (syc : S yc) (sxd : S xd) (syd : S yd) :
    Calls Tryz.prog 159 #[.agg #[.int .i64 xa, .int .i64 ya], .agg #[.int .i64 xb, .int .i64 yb], .agg #[.int .i64 xc, .int .i64 yc], .agg #[.int .i64 xd, .int .i64 yd]] w (Gives (SignR (lc xa ya xb yb xc yc xd yd * det xa ya xb yb xc yc)) g0 w) := by
  have hw1 := hw.below hI0.below
  obtain ⟨W, hW⟩ : ∃ W, W = (((w.alloc (.cells #[.int .i64 xa, .int .i64 ya] 24)).alloc (.cells #[.int .i64 xb, .int .i64 yb] 24)).alloc (.cells #[.int .i64 xc, .int .i64 yc] 24)).alloc (.cells #[.int .i64 xd, .int .i64 yd] 24) := ⟨_, rfl⟩
  have hb0 : Below w.heap.size w W := by rw [hW]; exact (((((Below.refl _ _).alloc (Nat.le_refl _) _).alloc (by simp) _).alloc (by simp; omega) _).alloc (by simp; omega) _)
  have HOK := Ctx.ok_lift0 hI0 hb0
  have C0_W_0 := Lib.hid (show W.cell? ⟨w.heap.size, 0, none⟩ = some (.int .i64 xa) by rw [hW]; simp [go_sem])
  have C0_W_1 := Lib.hid (show W.cell? ⟨w.heap.size, 1, none⟩ = some (.int .i64 ya) by rw [hW]; simp [go_sem])
  have HO0 : Off (lift0 g0) (w.heap.size) := lift0_off (hI0.offs _ (by omega))
  have C1_W_0 := Lib.hid (show W.cell? ⟨w.heap.size + 1, 0, none⟩ = some (.int .i64 xb) by rw [hW]; simp [go_sem])
  have C1_W_1 := Lib.hid (show W.cell? ⟨w.heap.size + 1, 1, none⟩ = some (.int .i64 yb) by rw [hW]; simp [go_sem])
  have HO1 : Off (lift0 g0) (w.heap.size + 1) := lift0_off (hI0.offs _ (by omega))
  have C2_W_0 := Lib.hid (show W.cell? ⟨w.heap.size + 1 + 1, 0, none⟩ = some (.int .i64 xc) by rw [hW]; simp [go_sem])
  have C2_W_1 := Lib.hid (show W.cell? ⟨w.heap.size + 1 + 1, 1, none⟩ = some (.int .i64 yc) by rw [hW]; simp [go_sem])
  have HO2 : Off (lift0 g0) (w.heap.size + 1 + 1) := lift0_off (hI0.offs _ (by omega))
  have C3_W_0 := Lib.hid (show W.cell? ⟨w.heap.size + 1 + 1 + 1, 0, none⟩ = some (.int .i64 xd) by rw [hW]; simp [go_sem])
  have C3_W_1 := Lib.hid (show W.cell? ⟨w.heap.size + 1 + 1 + 1, 1, none⟩ = some (.int .i64 yd) by rw [hW]; simp [go_sem])
  have HO3 : Off (lift0 g0) (w.heap.size + 1 + 1 + 1) := lift0_off (hI0.offs _ (by omega))
  have HW := Lib.hid hW
  clear hW
  go_enter Tryz.func159, Tryz.ntmps159
  go_upto_region 1 with (fail)
  rw [← HW.out]
  refine box_plan (c := ⟨w, W, (lift0 g0)⟩) HOK (by kernel_rfl) [[], [], [], [], [(9, 0), (10, 1), (11, 2), (12, 3)], [], [], [], [(14, 5), (15, 6), (16, 7)], [(13, 4), (17, 8)], [(18, 9)]] [(9, 0), (10, 1), (11, 2), (12, 3), (13, 4), (14, 5), (15, 6), (16, 7), (17, 8), (18, 9), (8, 10)] [
      (fun v _ _ => v = .agg #[.int .i64 xa, .int .i64 ya]),
      (fun v _ _ => v = .agg #[.int .i64 xb, .int .i64 yb]),
      (fun v _ _ => v = .agg #[.int .i64 xc, .int .i64 yc]),
      (fun v _ _ => v = .agg #[.int .i64 xd, .int .i64 yd]),
      SignR (lc xa ya xb yb xc yc xd yd),
      (fun v _ _ => v = .agg #[.int .i64 xa, .int .i64 ya]),
      (fun v _ _ => v = .agg #[.int .i64 xb, .int .i64 yb]),
      (fun v _ _ => v = .agg #[.int .i64 xc, .int .i64 yc]),
      SignR (det xa ya xb yb xc yc),
      SignR ((lc xa ya xb yb xc yc xd yd) * (det xa ya xb yb xc yc)),
      SignR ((lc xa ya xb yb xc yc xd yd) * (det xa ya xb yb xc yc))
    ] (fun _ => none) (by kernel_rfl) (by kernel_rfl) ⟨stab_eq, stab_eq, stab_eq, stab_eq, stab_firm (signR_firm _), stab_eq, stab_eq, stab_eq, stab_firm (signR_firm _), stab_firm (signR_firm _), stab_firm (signR_firm _), trivial⟩ ?steps ?fin
  case steps =>
    refine ⟨?_, ?_, ?_, ?_, ?_, ?_, ?_, ?_, ?_, ?_, ?_, trivial⟩
    · intro vs g w2 hI hF hR K hK
      simp only [Facts, fill, Act.put, z1, z2, z3, z4, z5, Nat.reduceAdd] at hF hR hK ⊢
      have k0 := hI.cell C0_W_0.out (by first | exact HO0 | exact HO1 | exact HO2 | exact HO3 | assumption)
      have k1 := hI.cell C0_W_1.out (by first | exact HO0 | exact HO1 | exact HO2 | exact HO3 | assumption)
      go_simp
      exact hK _ _ _ hI (Step.refl hI) rfl
    · intro vs g w2 hI hF hR K hK
      simp only [Facts, fill, Act.put, z1, z2, z3, z4, z5, Nat.reduceAdd] at hF hR hK ⊢
      have k0 := hI.cell C1_W_0.out (by first | exact HO0 | exact HO1 | exact HO2 | exact HO3 | assumption)
      have k1 := hI.cell C1_W_1.out (by first | exact HO0 | exact HO1 | exact HO2 | exact HO3 | assumption)
      go_simp
      exact hK _ _ _ hI (Step.refl hI) rfl
    · intro vs g w2 hI hF hR K hK
      simp only [Facts, fill, Act.put, z1, z2, z3, z4, z5, Nat.reduceAdd] at hF hR hK ⊢
      have k0 := hI.cell C2_W_0.out (by first | exact HO0 | exact HO1 | exact HO2 | exact HO3 | assumption)
      have k1 := hI.cell C2_W_1.out (by first | exact HO0 | exact HO1 | exact HO2 | exact HO3 | assumption)
      go_simp
      exact hK _ _ _ hI (Step.refl hI) rfl
    · intro vs g w2 hI hF hR K hK
      simp only [Facts, fill, Act.put, z1, z2, z3, z4, z5, Nat.reduceAdd] at hF hR hK ⊢
      have k0 := hI.cell C3_W_0.out (by first | exact HO0 | exact HO1 | exact HO2 | exact HO3 | assumption)
      have k1 := hI.cell C3_W_1.out (by first | exact HO0 | exact HO1 | exact HO2 | exact HO3 | assumption)
      go_simp
      exact hK _ _ _ hI (Step.refl hI) rfl
    · intro vs g w2 hI hF hR K hK
      simp only [Facts, fill, Act.put, z1, z2, z3, z4, z5, Nat.reduceAdd] at hF hR hK ⊢
      obtain ⟨r0, r1, r2, r3, -⟩ := hR
      generalize vs 0 = x0, vs 1 = x1, vs 2 = x2, vs 3 = x3 at *
      subst r0 r1 r2 r3
      go_simp
      refine (gCircleSign hI hw1 (by first | assumption | (unfold S; decide)) (by first | assumption | (unfold S; decide)) (by first | assumption | (unfold S; decide)) (by first | assumption | (unfold S; decide)) (by first | assumption | (unfold S; decide)) (by first | assumption | (unfold S; decide)) (by first | assumption | (unfold S; decide)) (by first | assumption | (unfold S; decide))).mono ?_
      rintro e w3 ⟨v3, rfl, hv, hb⟩
      exact hK _ _ _ (hI.call hb) (Step.call hI hb) hv
    · intro vs g w2 hI hF hR K hK
      simp only [Facts, fill, Act.put, z1, z2, z3, z4, z5, Nat.reduceAdd] at hF hR hK ⊢
      have k0 := hI.cell C0_W_0.out (by first | exact HO0 | exact HO1 | exact HO2 | exact HO3 | assumption)
      have k1 := hI.cell C0_W_1.out (by first | exact HO0 | exact HO1 | exact HO2 | exact HO3 | assumption)
      go_simp
      exact hK _ _ _ hI (Step.refl hI) rfl
    · intro vs g w2 hI hF hR K hK
      simp only [Facts, fill, Act.put, z1, z2, z3, z4, z5, Nat.reduceAdd] at hF hR hK ⊢
      have k0 := hI.cell C1_W_0.out (by first | exact HO0 | exact HO1 | exact HO2 | exact HO3 | assumption)
      have k1 := hI.cell C1_W_1.out (by first | exact HO0 | exact HO1 | exact HO2 | exact HO3 | assumption)
      go_simp
      exact hK _ _ _ hI (Step.refl hI) rfl
    · intro vs g w2 hI hF hR K hK
      simp only [Facts, fill, Act.put, z1, z2, z3, z4, z5, Nat.reduceAdd] at hF hR hK ⊢
      have k0 := hI.cell C2_W_0.out (by first | exact HO0 | exact HO1 | exact HO2 | exact HO3 | assumption)
      have k1 := hI.cell C2_W_1.out (by first | exact HO0 | exact HO1 | exact HO2 | exact HO3 | assumption)
      go_simp
      exact hK _ _ _ hI (Step.refl hI) rfl
    · intro vs g w2 hI hF hR K hK
      simp only [Facts, fill, Act.put, z1, z2, z3, z4, z5, Nat.reduceAdd] at hF hR hK ⊢
      obtain ⟨r5, r6, r7, -⟩ := hR
      generalize vs 5 = x5, vs 6 = x6, vs 7 = x7 at *
      subst r5 r6 r7
      go_simp
      refine (gOrientSign hI hw1 (by first | assumption | (unfold S; decide)) (by first | assumption | (unfold S; decide)) (by first | assumption | (unfold S; decide)) (by first | assumption | (unfold S; decide)) (by first | assumption | (unfold S; decide)) (by first | assumption | (unfold S; decide))).mono ?_
      rintro e w3 ⟨v3, rfl, hv, hb⟩
      exact hK _ _ _ (hI.call hb) (Step.call hI hb) hv
    · intro vs g w2 hI hF hR K hK
      simp only [Facts, fill, Act.put, z1, z2, z3, z4, z5, Nat.reduceAdd] at hF hR hK ⊢
      obtain ⟨r4, r8, -⟩ := hR
      generalize vs 4 = x4, vs 8 = x8 at *
      have q4 := r4
      obtain ⟨s4, rfl, -⟩ := r4
      have q8 := r8
      obtain ⟨s8, rfl, -⟩ := r8
      obtain ⟨he, hn⟩ := signR_mul q4 q8
      clear q4
      clear q8
      go_simp
      exact hK _ _ _ hI (Step.refl hI) hn
    · intro vs g w2 hI hF hR K hK
      simp only [Facts, fill, Act.put, z1, z2, z3, z4, z5, Nat.reduceAdd] at hF hR hK ⊢
      obtain ⟨r9, -⟩ := hR
      generalize vs 9 = x9 at *
      go_simp
      exact hK _ _ _ hI (Step.refl hI) r9
  case fin =>
    intro vs g wR1 hI hR
    have r10 := hR 10 (by decide)
    simp only [fill, Act.put, z1, z2, z3, z4, z5] at r10 ⊢
    clear hR
    generalize vs 10 = x10 at *
    have C0_R1_0 := Lib.hid (hI.cell C0_W_0.out (by first | exact HO0 | exact HO1 | exact HO2 | exact HO3 | assumption))
    have C0_R1_1 := Lib.hid (hI.cell C0_W_1.out (by first | exact HO0 | exact HO1 | exact HO2 | exact HO3 | assumption))
    have C1_R1_0 := Lib.hid (hI.cell C1_W_0.out (by first | exact HO0 | exact HO1 | exact HO2 | exact HO3 | assumption))
    have C1_R1_1 := Lib.hid (hI.cell C1_W_1.out (by first | exact HO0 | exact HO1 | exact HO2 | exact HO3 | assumption))
    have C2_R1_0 := Lib.hid (hI.cell C2_W_0.out (by first | exact HO0 | exact HO1 | exact HO2 | exact HO3 | assumption))
    have C2_R1_1 := Lib.hid (hI.cell C2_W_1.out (by first | exact HO0 | exact HO1 | exact HO2 | exact HO3 | assumption))
    have C3_R1_0 := Lib.hid (hI.cell C3_W_0.out (by first | exact HO0 | exact HO1 | exact HO2 | exact HO3 | assumption))
    have C3_R1_1 := Lib.hid (hI.cell C3_W_1.out (by first | exact HO0 | exact HO1 | exact HO2 | exact HO3 | assumption))
    have qfR18 := r10
    obtain ⟨svR18, rfl, -⟩ := signR_open r10
    have FR18_R1_0 := Lib.hid ((signR_firm _) _ _ _ _ _ qfR18 hI.back)
    clear qfR18
    have hBR1 := hI.below
    have HCR1 := hI.next HOK
    clear hI
    go_wp2
    go_ret
    exact ⟨_, rfl, (signR_firm _) _ _ _ _ _ FR18_R1_0.out keeps_out0, hBR1⟩
end Go.Proofs.YthmkllpdkcmccaaGreatDoor
