/-
  The reference of layer 8. (Written by law5.py.)
-/
import Derived.Test.YtckhgamojpbcgaaDoorGen6
namespace Go.Proofs.YtckhgamojpbcgaaDoor
open Go.RowKit
set_option maxRecDepth 100000
set_option linter.unusedVariables false
set_option linter.unusedSimpArgs false

def withB (a b x : Int) : Bool := decide (a ≤ x) && decide (x ≤ b) || decide (b ≤ x) && decide (x ≤ a)
def contB (xa ya xb yb xp yp : Int) : Bool := decide (det xa ya xb yb xp yp = 0) && withB xa xb xp && withB ya yb yp
/-- c and d lie strictly on different sides of the line through a and b. -/
def oppB (xa ya xb yb xc yc xd yd : Int) : Bool := decide (det xa ya xb yb xc yc * det xa ya xb yb xd yd < 0)
def crossB (xa ya xb yb xc yc xd yd : Int) : Bool := oppB xa ya xb yb xc yc xd yd && oppB xc yc xd yd xa ya xb yb
def meetB (xa ya xb yb xc yc xd yd : Int) : Bool := crossB xa ya xb yb xc yc xd yd || contB xa ya xb yb xc yc || contB xa ya xb yb xd yd || contB xc yc xd yd xa ya || contB xc yc xd yd xb yb
theorem det_swap (xa ya xb yb xc yc : Int) : det xb yb xa ya xc yc = -det xa ya xb yb xc yc := by unfold det; grind
theorem det_self (xa ya xb yb : Int) : det xa ya xb yb xa ya = 0 := by unfold det; grind
theorem det_self2 (xa ya xb yb : Int) : det xa ya xb yb xb yb = 0 := by unfold det; grind
theorem with_swap (a b x : Int) : withB b a x = withB a b x := by unfold withB; rw [Bool.or_comm]
theorem with_a (a b : Int) : withB a b a = true := by unfold withB; by_cases h : a ≤ b <;> simp [h]; omega
theorem with_b (a b : Int) : withB a b b = true := by rw [← with_swap]; exact with_a b a
theorem cont_swap (xa ya xb yb xp yp : Int) : contB xb yb xa ya xp yp = contB xa ya xb yb xp yp := by
  unfold contB
  rw [det_swap, with_swap xa, with_swap ya]
  congr 2
  rw [decide_eq_decide]; omega
theorem cont_a (xa ya xb yb : Int) : contB xa ya xb yb xa ya = true := by unfold contB; rw [det_self, with_a, with_a]; rfl
theorem cont_b (xa ya xb yb : Int) : contB xa ya xb yb xb yb = true := by unfold contB; rw [det_self2, with_b, with_b]; rfl
theorem opp_swap (xa ya xb yb xc yc xd yd : Int) : oppB xb yb xa ya xc yc xd yd = oppB xa ya xb yb xc yc xd yd := by
  unfold oppB
  rw [det_swap xa ya xb yb xc yc, det_swap xa ya xb yb xd yd, Int.neg_mul_neg]
theorem opp_swap2 (xa ya xb yb xc yc xd yd : Int) : oppB xa ya xb yb xd yd xc yc = oppB xa ya xb yb xc yc xd yd := by
  unfold oppB; rw [Int.mul_comm]
theorem cross_1 (xa ya xb yb xc yc xd yd : Int) : crossB xb yb xa ya xc yc xd yd = crossB xa ya xb yb xc yc xd yd := by
  unfold crossB; rw [opp_swap, opp_swap2 xc yc xd yd xa ya xb yb]
theorem cross_2 (xa ya xb yb xc yc xd yd : Int) : crossB xc yc xd yd xa ya xb yb = crossB xa ya xb yb xc yc xd yd := by
  unfold crossB; rw [Bool.and_comm]
theorem meet_1 (xa ya xb yb xc yc xd yd : Int) : meetB xb yb xa ya xc yc xd yd = meetB xa ya xb yb xc yc xd yd := by
  unfold meetB
  rw [cross_1, cont_swap xa ya xb yb xc yc, cont_swap xa ya xb yb xd yd]
  generalize crossB xa ya xb yb xc yc xd yd = p1, contB xa ya xb yb xc yc = p2, contB xa ya xb yb xd yd = p3, contB xc yc xd yd xa ya = p4, contB xc yc xd yd xb yb = p5
  cases p1 <;> cases p2 <;> cases p3 <;> cases p4 <;> cases p5 <;> rfl
theorem meet_2 (xa ya xb yb xc yc xd yd : Int) : meetB xc yc xd yd xa ya xb yb = meetB xa ya xb yb xc yc xd yd := by
  unfold meetB
  rw [cross_2]
  generalize crossB xa ya xb yb xc yc xd yd = p1, contB xa ya xb yb xc yc = p2, contB xa ya xb yb xd yd = p3, contB xc yc xd yd xa ya = p4, contB xc yc xd yd xb yb = p5
  cases p1 <;> cases p2 <;> cases p3 <;> cases p4 <;> cases p5 <;> rfl
theorem meet_3 (xa ya xb yb xc yc xd yd : Int) : meetB xa ya xb yb xd yd xc yc = meetB xa ya xb yb xc yc xd yd := by
  rw [← meet_2 xa ya xb yb xd yd xc yc, meet_1, meet_2]
theorem meet_of_cross {xa ya xb yb xc yc xd yd : Int} (h : crossB xa ya xb yb xc yc xd yd = true) : meetB xa ya xb yb xc yc xd yd = true := by unfold meetB; rw [h]; rfl
theorem meet_of_c {xa ya xb yb xc yc xd yd : Int} (h : contB xa ya xb yb xc yc = true) : meetB xa ya xb yb xc yc xd yd = true := by unfold meetB; rw [h, Bool.or_true]; rfl
theorem meet_of_b {xa ya xb yb xc yc xd yd : Int} (h : contB xc yc xd yd xb yb = true) : meetB xa ya xb yb xc yc xd yd = true := by unfold meetB; rw [h, Bool.or_true]
theorem cross_ac (xa ya xb yb xc yc : Int) : crossB xa ya xb yb xa ya xc yc = false := by unfold crossB oppB; rw [det_self, Int.zero_mul]; rfl
theorem q_cont_a (xa ya xb yb : Int) : (mk (contB xa ya xb yb xa ya) == 18446744073709551615) = true := by rw [cont_a]; rfl
theorem q_cont_b (xa ya xb yb : Int) : (mk (contB xa ya xb yb xb yb) == 18446744073709551615) = true := by rw [cont_b]; rfl
theorem q_meet_ab (xa ya xb yb : Int) : (mk (meetB xa ya xb yb xa ya xb yb) == 18446744073709551615) = true := by rw [meet_of_c (cont_a xa ya xb yb)]; rfl
theorem q_meet_bc (xa ya xb yb xc yc : Int) : (mk (meetB xa ya xb yb xb yb xc yc) == 18446744073709551615) = true := by rw [meet_of_c (cont_b xa ya xb yb)]; rfl
theorem q_cross_ac (xa ya xb yb xc yc : Int) : (mk (crossB xa ya xb yb xa ya xc yc) == 0) = true := by rw [cross_ac]; rfl
theorem q_meet_1 (xa ya xb yb xc yc xd yd : Int) : (mk (meetB xa ya xb yb xc yc xd yd) == mk (meetB xb yb xa ya xc yc xd yd)) = true := by rw [meet_1]; exact beq_self_eq_true _
theorem q_meet_2 (xa ya xb yb xc yc xd yd : Int) : (mk (meetB xa ya xb yb xc yc xd yd) == mk (meetB xc yc xd yd xa ya xb yb)) = true := by rw [meet_2]; exact beq_self_eq_true _
theorem q_meet_3 (xa ya xb yb xc yc xd yd : Int) : (mk (meetB xa ya xb yb xc yc xd yd) == mk (meetB xa ya xb yb xd yd xc yc)) = true := by rw [meet_3]; exact beq_self_eq_true _
theorem q_cross_1 (xa ya xb yb xc yc xd yd : Int) : (mk (crossB xa ya xb yb xc yc xd yd) == mk (crossB xb yb xa ya xc yc xd yd)) = true := by rw [cross_1]; exact beq_self_eq_true _
theorem q_cross_2 (xa ya xb yb xc yc xd yd : Int) : (mk (crossB xa ya xb yb xc yc xd yd) == mk (crossB xc yc xd yd xa ya xb yb)) = true := by rw [cross_2]; exact beq_self_eq_true _
theorem q_cont_1 (xa ya xb yb xc yc : Int) : (mk (contB xa ya xb yb xc yc) == mk (contB xb yb xa ya xc yc)) = true := by rw [cont_swap]; exact beq_self_eq_true _
theorem mk_andNot {p q : Bool} (h : p = true → q = true) : (bits .andNot .u64 (mk p) (mk q) == 0) = true := by
  cases p
  · cases q <;> decide +kernel
  · rw [h rfl]; decide +kernel
theorem q_imp_1 (xa ya xb yb xc yc xd yd : Int) : (bits .andNot .u64 (mk (crossB xa ya xb yb xc yc xd yd)) (mk (meetB xa ya xb yb xc yc xd yd)) == 0) = true := mk_andNot meet_of_cross
theorem q_imp_2 (xa ya xb yb xc yc xd yd : Int) : (bits .andNot .u64 (mk (contB xa ya xb yb xc yc)) (mk (meetB xa ya xb yb xc yc xd yd)) == 0) = true := mk_andNot meet_of_c
theorem q_imp_3 (xa ya xb yb xc yc xd yd : Int) : (bits .andNot .u64 (mk (contB xc yc xd yd xb yb)) (mk (meetB xa ya xb yb xc yc xd yd)) == 0) = true := mk_andNot meet_of_b
theorem sgn0_t {x s : Int} {g : Gh} {w : World} (h : SignR x (.int .i64 s) g w) (hx : decide (x = 0) = true) : (s == 0) = true := by
  obtain ⟨s', e, rfl⟩ := h
  injection e with _ e
  subst e
  rw [of_decide_eq_true hx]; rfl
theorem sgn0_f {x s : Int} {g : Gh} {w : World} (h : SignR x (.int .i64 s) g w) (hx : decide (x = 0) = false) : (s == 0) = false := by
  obtain ⟨s', e, rfl⟩ := h
  injection e with _ e
  subst e
  rw [beq_eq_false_iff_ne, ne_eq, Int.sign_eq_zero_iff_zero]; exact of_decide_eq_false hx
theorem sgn_lt {x s : Int} {g : Gh} {w : World} {b : Bool} (h : SignR x (.int .i64 s) g w) (hx : decide (x < 0) = b) : decide (s < 0) = b := by
  obtain ⟨s', e, rfl⟩ := h
  injection e with _ e
  subst e
  rw [← hx, decide_eq_decide, Int.sign_neg_iff]
theorem ref8Within_any (a b x : Int) (w : World) : Calls Tryd.prog 12 #[.int .i64 a, .int .i64 b, .int .i64 x] w fun e w' => e = .returned (.bool (withB a b x)) ∧ w' = w := by
  by_cases h0 : a ≤ x
  · by_cases h1 : x ≤ b
    · have d0 : decide (a ≤ x) = true := decide_eq_true h0
      have d1 : decide (x ≤ b) = true := decide_eq_true h1
      have HR := Lib.hid (show withB a b x = true by unfold withB; simp [h0, h1])
      clear h0 h1
      go_enter Tryd.func12, Tryd.ntmps12
      go_wp2
      go_ret
      exact ⟨by rw [HR.out]; rfl, rfl⟩
    · by_cases h2 : b ≤ x
      · by_cases h3 : x ≤ a
        · have d0 : decide (a ≤ x) = true := decide_eq_true h0
          have d1 : decide (x ≤ b) = false := decide_eq_false h1
          have d2 : decide (b ≤ x) = true := decide_eq_true h2
          have d3 : decide (x ≤ a) = true := decide_eq_true h3
          have HR := Lib.hid (show withB a b x = true by unfold withB; simp [h0, h1, h2, h3])
          clear h0 h1 h2 h3
          go_enter Tryd.func12, Tryd.ntmps12
          go_wp2
          go_ret
          exact ⟨by rw [HR.out]; rfl, rfl⟩
        · have d0 : decide (a ≤ x) = true := decide_eq_true h0
          have d1 : decide (x ≤ b) = false := decide_eq_false h1
          have d2 : decide (b ≤ x) = true := decide_eq_true h2
          have d3 : decide (x ≤ a) = false := decide_eq_false h3
          have HR := Lib.hid (show withB a b x = false by unfold withB; simp [h0, h1, h2, h3])
          clear h0 h1 h2 h3
          go_enter Tryd.func12, Tryd.ntmps12
          go_wp2
          go_ret
          exact ⟨by rw [HR.out]; rfl, rfl⟩
      · have d0 : decide (a ≤ x) = true := decide_eq_true h0
        have d1 : decide (x ≤ b) = false := decide_eq_false h1
        have d2 : decide (b ≤ x) = false := decide_eq_false h2
        have HR := Lib.hid (show withB a b x = false by unfold withB; simp [h0, h1, h2])
        clear h0 h1 h2
        go_enter Tryd.func12, Tryd.ntmps12
        go_wp2
        go_ret
        exact ⟨by rw [HR.out]; rfl, rfl⟩
  · by_cases h2 : b ≤ x
    · by_cases h3 : x ≤ a
      · have d0 : decide (a ≤ x) = false := decide_eq_false h0
        have d2 : decide (b ≤ x) = true := decide_eq_true h2
        have d3 : decide (x ≤ a) = true := decide_eq_true h3
        have HR := Lib.hid (show withB a b x = true by unfold withB; simp [h0, h2, h3])
        clear h0 h2 h3
        go_enter Tryd.func12, Tryd.ntmps12
        go_wp2
        go_ret
        exact ⟨by rw [HR.out]; rfl, rfl⟩
      · have d0 : decide (a ≤ x) = false := decide_eq_false h0
        have d2 : decide (b ≤ x) = true := decide_eq_true h2
        have d3 : decide (x ≤ a) = false := decide_eq_false h3
        have HR := Lib.hid (show withB a b x = false by unfold withB; simp [h0, h2, h3])
        clear h0 h2 h3
        go_enter Tryd.func12, Tryd.ntmps12
        go_wp2
        go_ret
        exact ⟨by rw [HR.out]; rfl, rfl⟩
    · have d0 : decide (a ≤ x) = false := decide_eq_false h0
      have d2 : decide (b ≤ x) = false := decide_eq_false h2
      have HR := Lib.hid (show withB a b x = false by unfold withB; simp [h0, h2])
      clear h0 h2
      go_enter Tryd.func12, Tryd.ntmps12
      go_wp2
      go_ret
      exact ⟨by rw [HR.out]; rfl, rfl⟩
theorem gRef8Within {c : Ctx} {g : Gh} {w : World} {a b x : Int} {r : Bool} (_hI : RInv c g w) (h : withB a b x = r) : Calls Tryd.prog 12 #[.int .i64 a, .int .i64 b, .int .i64 x] w (Gives (fun v _ _ => v = .bool r) g w) := by
  refine (ref8Within_any a b x w).mono ?_
  rintro e w' ⟨rfl, rfl⟩
  exact ⟨_, rfl, by rw [h], Below.refl _ _⟩
set_option maxRecDepth 100000 in
set_option maxHeartbeats 4000000 in
theorem gRef8ContF {c0 : Ctx} {g0 : Gh} {w : World} {xa ya xb yb xp yp : Int} (hI0 : RInv c0 g0 w) (sxa : S xa) (sya : S ya) (sxb : S xb) (syb : S yb) (sxp : S xp) (syp : S yp) (h0 : decide (det xa ya xb yb xp yp = 0) = false) :
    Calls Tryd.prog 14 #[.agg #[.int .i64 xa, .int .i64 ya], .agg #[.int .i64 xb, .int .i64 yb], .agg #[.int .i64 xp, .int .i64 yp]] w (Gives (fun v _ _ => v = .bool false) g0 w) := by
  have H0 := Lib.hid h0
  clear h0
  obtain ⟨W, hW⟩ : ∃ W, W = ((w.alloc (.cells #[.int .i64 xa, .int .i64 ya] 28)).alloc (.cells #[.int .i64 xb, .int .i64 yb] 28)).alloc (.cells #[.int .i64 xp, .int .i64 yp] 28) := ⟨_, rfl⟩
  have hb0 : Below w.heap.size w W := by rw [hW]; exact ((((Below.refl _ _).alloc (Nat.le_refl _) _).alloc (by simp) _).alloc (by simp; omega) _)
  have HOK := Ctx.ok_lift0 hI0 hb0
  have C0_W_0 := Lib.hid (show W.cell? ⟨w.heap.size, 0, none⟩ = some (.int .i64 xa) by rw [hW]; simp [go_sem])
  have C0_W_1 := Lib.hid (show W.cell? ⟨w.heap.size, 1, none⟩ = some (.int .i64 ya) by rw [hW]; simp [go_sem])
  have HO0 : Off (lift0 g0) (w.heap.size) := lift0_off (hI0.offs _ (by omega))
  have C1_W_0 := Lib.hid (show W.cell? ⟨w.heap.size + 1, 0, none⟩ = some (.int .i64 xb) by rw [hW]; simp [go_sem])
  have C1_W_1 := Lib.hid (show W.cell? ⟨w.heap.size + 1, 1, none⟩ = some (.int .i64 yb) by rw [hW]; simp [go_sem])
  have HO1 : Off (lift0 g0) (w.heap.size + 1) := lift0_off (hI0.offs _ (by omega))
  have C2_W_0 := Lib.hid (show W.cell? ⟨w.heap.size + 1 + 1, 0, none⟩ = some (.int .i64 xp) by rw [hW]; simp [go_sem])
  have C2_W_1 := Lib.hid (show W.cell? ⟨w.heap.size + 1 + 1, 1, none⟩ = some (.int .i64 yp) by rw [hW]; simp [go_sem])
  have HO2 : Off (lift0 g0) (w.heap.size + 1 + 1) := lift0_off (hI0.offs _ (by omega))
  have HW := Lib.hid hW
  clear hW
  go_enter Tryd.func14, Tryd.ntmps14
  go_upto_region 1 with (fail)
  rw [← HW.out]
  refine box_plan0 (c := ⟨w, W, (lift0 g0)⟩) HOK [[], [], [], [(7, 0), (8, 1), (9, 2)], [(10, 3)], [(11, 4)], [(12, 5)], [(12, 5), (13, 6)], [(12, 5)], [(12, 5), (15, 8)], [(12, 5)], [(12, 5), (17, 10)], [(12, 5), (14, 7), (16, 9), (18, 11)], [(12, 5), (19, 12)], [(20, 13)], [(21, 14)], [(21, 14), (22, 15)], [(21, 14)], [(21, 14), (24, 17)], [(21, 14)], [(21, 14), (26, 19)], [(21, 14), (23, 16), (25, 18), (27, 20)], [(21, 14), (28, 21)], [(29, 22)]] [(7, 0), (8, 1), (9, 2), (10, 3), (11, 4), (12, 5), (13, 6), (14, 7), (15, 8), (16, 9), (17, 10), (18, 11), (19, 12), (20, 13), (21, 14), (22, 15), (23, 16), (24, 17), (25, 18), (26, 19), (27, 20), (28, 21), (29, 22), (6, 23)] [
      (fun v _ _ => v = .agg #[.int .i64 xa, .int .i64 ya]),
      (fun v _ _ => v = .agg #[.int .i64 xb, .int .i64 yb]),
      (fun v _ _ => v = .agg #[.int .i64 xp, .int .i64 yp]),
      SignR (det xa ya xb yb xp yp),
      (fun v _ _ => v = .bool false),
      (fun v _ _ => v = .bool false),
      (fun v _ _ => v = undef),
      (fun v _ _ => v = undef),
      (fun v _ _ => v = undef),
      (fun v _ _ => v = undef),
      (fun v _ _ => v = undef),
      (fun v _ _ => v = undef),
      (fun v _ _ => v = undef),
      (fun v _ _ => v = .bool false),
      (fun v _ _ => v = .bool false),
      (fun v _ _ => v = undef),
      (fun v _ _ => v = undef),
      (fun v _ _ => v = undef),
      (fun v _ _ => v = undef),
      (fun v _ _ => v = undef),
      (fun v _ _ => v = undef),
      (fun v _ _ => v = undef),
      (fun v _ _ => v = .bool false),
      (fun v _ _ => v = .bool false)
    ] (fun _ => none) (by kernel_rfl) (by kernel_rfl) ⟨stab_eq, stab_eq, stab_eq, stab_firm (signR_firm _), stab_eq, stab_eq, stab_eq, stab_eq, stab_eq, stab_eq, stab_eq, stab_eq, stab_eq, stab_eq, stab_eq, stab_eq, stab_eq, stab_eq, stab_eq, stab_eq, stab_eq, stab_eq, stab_eq, stab_eq, trivial⟩ ?steps ?fin
  case steps =>
    refine ⟨?_, ?_, ?_, ?_, ?_, ?_, ?_, ?_, ?_, ?_, ?_, ?_, ?_, ?_, ?_, ?_, ?_, ?_, ?_, ?_, ?_, ?_, ?_, ?_, trivial⟩
    · intro vs g w2 hI hF hR K hK
      simp only [Facts, fill, Act.put, z1, z2, z3, z4, z5, Nat.reduceAdd] at hF hR hK ⊢
      have k0 := hI.cell C0_W_0.out (by first | exact HO0 | exact HO1 | exact HO2 | assumption)
      have k1 := hI.cell C0_W_1.out (by first | exact HO0 | exact HO1 | exact HO2 | assumption)
      go_simp
      exact hK _ _ _ hI (Step.refl hI) rfl
    · intro vs g w2 hI hF hR K hK
      simp only [Facts, fill, Act.put, z1, z2, z3, z4, z5, Nat.reduceAdd] at hF hR hK ⊢
      have k0 := hI.cell C1_W_0.out (by first | exact HO0 | exact HO1 | exact HO2 | assumption)
      have k1 := hI.cell C1_W_1.out (by first | exact HO0 | exact HO1 | exact HO2 | assumption)
      go_simp
      exact hK _ _ _ hI (Step.refl hI) rfl
    · intro vs g w2 hI hF hR K hK
      simp only [Facts, fill, Act.put, z1, z2, z3, z4, z5, Nat.reduceAdd] at hF hR hK ⊢
      have k0 := hI.cell C2_W_0.out (by first | exact HO0 | exact HO1 | exact HO2 | assumption)
      have k1 := hI.cell C2_W_1.out (by first | exact HO0 | exact HO1 | exact HO2 | assumption)
      go_simp
      exact hK _ _ _ hI (Step.refl hI) rfl
    · intro vs g w2 hI hF hR K hK
      simp only [Facts, fill, Act.put, z1, z2, z3, z4, z5, Nat.reduceAdd] at hF hR hK ⊢
      obtain ⟨r0, r1, r2, -⟩ := hR
      generalize vs 0 = x0, vs 1 = x1, vs 2 = x2 at *
      subst r0 r1 r2
      go_simp
      refine (gRef6Sign hI (by first | assumption | (unfold S; decide)) (by first | assumption | (unfold S; decide)) (by first | assumption | (unfold S; decide)) (by first | assumption | (unfold S; decide)) (by first | assumption | (unfold S; decide)) (by first | assumption | (unfold S; decide))).mono ?_
      rintro e w3 ⟨v3, rfl, hv, hb⟩
      exact hK _ _ _ (hI.call hb) (Step.call hI hb) hv
    · intro vs g w2 hI hF hR K hK
      simp only [Facts, fill, Act.put, z1, z2, z3, z4, z5, Nat.reduceAdd] at hF hR hK ⊢
      obtain ⟨r3, -⟩ := hR
      generalize vs 3 = x3 at *
      have q := r3
      obtain ⟨s0, rfl, -⟩ := r3
      have hz := sgn0_f q H0.out
      clear q
      go_simp
      exact hK _ _ _ hI (Step.refl hI) rfl
    · intro vs g w2 hI hF hR K hK
      simp only [Facts, fill, Act.put, z1, z2, z3, z4, z5, Nat.reduceAdd] at hF hR hK ⊢
      obtain ⟨r4, -⟩ := hR
      generalize vs 4 = x4 at *
      subst r4
      go_simp
      exact hK _ _ _ hI (Step.refl hI) rfl
    · intro vs g w2 hI hF hR K hK
      simp only [Facts, fill, Act.put, z1, z2, z3, z4, z5, Nat.reduceAdd] at hF hR hK ⊢
      obtain ⟨r5, -⟩ := hR
      generalize vs 5 = x5 at *
      subst r5
      go_simp
      exact hK _ _ _ hI (Step.refl hI) rfl
    · intro vs g w2 hI hF hR K hK
      simp only [Facts, fill, Act.put, z1, z2, z3, z4, z5, Nat.reduceAdd] at hF hR hK ⊢
      obtain ⟨r5, r6, -⟩ := hR
      generalize vs 5 = x5, vs 6 = x6 at *
      subst r5 r6
      go_simp
      exact hK _ _ _ hI (Step.refl hI) rfl
    · intro vs g w2 hI hF hR K hK
      simp only [Facts, fill, Act.put, z1, z2, z3, z4, z5, Nat.reduceAdd] at hF hR hK ⊢
      obtain ⟨r5, -⟩ := hR
      generalize vs 5 = x5 at *
      subst r5
      go_simp
      exact hK _ _ _ hI (Step.refl hI) rfl
    · intro vs g w2 hI hF hR K hK
      simp only [Facts, fill, Act.put, z1, z2, z3, z4, z5, Nat.reduceAdd] at hF hR hK ⊢
      obtain ⟨r5, r8, -⟩ := hR
      generalize vs 5 = x5, vs 8 = x8 at *
      subst r5 r8
      go_simp
      exact hK _ _ _ hI (Step.refl hI) rfl
    · intro vs g w2 hI hF hR K hK
      simp only [Facts, fill, Act.put, z1, z2, z3, z4, z5, Nat.reduceAdd] at hF hR hK ⊢
      obtain ⟨r5, -⟩ := hR
      generalize vs 5 = x5 at *
      subst r5
      go_simp
      exact hK _ _ _ hI (Step.refl hI) rfl
    · intro vs g w2 hI hF hR K hK
      simp only [Facts, fill, Act.put, z1, z2, z3, z4, z5, Nat.reduceAdd] at hF hR hK ⊢
      obtain ⟨r5, r10, -⟩ := hR
      generalize vs 5 = x5, vs 10 = x10 at *
      subst r5 r10
      go_simp
      exact hK _ _ _ hI (Step.refl hI) rfl
    · intro vs g w2 hI hF hR K hK
      simp only [Facts, fill, Act.put, z1, z2, z3, z4, z5, Nat.reduceAdd] at hF hR hK ⊢
      obtain ⟨r5, r7, r9, r11, -⟩ := hR
      generalize vs 5 = x5, vs 7 = x7, vs 9 = x9, vs 11 = x11 at *
      subst r5 r7 r9 r11
      go_simp
      exact hK _ _ _ hI (Step.refl hI) rfl
    · intro vs g w2 hI hF hR K hK
      simp only [Facts, fill, Act.put, z1, z2, z3, z4, z5, Nat.reduceAdd] at hF hR hK ⊢
      obtain ⟨r5, r12, -⟩ := hR
      generalize vs 5 = x5, vs 12 = x12 at *
      subst r5 r12
      go_simp
      exact hK _ _ _ hI (Step.refl hI) rfl
    · intro vs g w2 hI hF hR K hK
      simp only [Facts, fill, Act.put, z1, z2, z3, z4, z5, Nat.reduceAdd] at hF hR hK ⊢
      obtain ⟨r13, -⟩ := hR
      generalize vs 13 = x13 at *
      subst r13
      go_simp
      exact hK _ _ _ hI (Step.refl hI) rfl
    · intro vs g w2 hI hF hR K hK
      simp only [Facts, fill, Act.put, z1, z2, z3, z4, z5, Nat.reduceAdd] at hF hR hK ⊢
      obtain ⟨r14, -⟩ := hR
      generalize vs 14 = x14 at *
      subst r14
      go_simp
      exact hK _ _ _ hI (Step.refl hI) rfl
    · intro vs g w2 hI hF hR K hK
      simp only [Facts, fill, Act.put, z1, z2, z3, z4, z5, Nat.reduceAdd] at hF hR hK ⊢
      obtain ⟨r14, r15, -⟩ := hR
      generalize vs 14 = x14, vs 15 = x15 at *
      subst r14 r15
      go_simp
      exact hK _ _ _ hI (Step.refl hI) rfl
    · intro vs g w2 hI hF hR K hK
      simp only [Facts, fill, Act.put, z1, z2, z3, z4, z5, Nat.reduceAdd] at hF hR hK ⊢
      obtain ⟨r14, -⟩ := hR
      generalize vs 14 = x14 at *
      subst r14
      go_simp
      exact hK _ _ _ hI (Step.refl hI) rfl
    · intro vs g w2 hI hF hR K hK
      simp only [Facts, fill, Act.put, z1, z2, z3, z4, z5, Nat.reduceAdd] at hF hR hK ⊢
      obtain ⟨r14, r17, -⟩ := hR
      generalize vs 14 = x14, vs 17 = x17 at *
      subst r14 r17
      go_simp
      exact hK _ _ _ hI (Step.refl hI) rfl
    · intro vs g w2 hI hF hR K hK
      simp only [Facts, fill, Act.put, z1, z2, z3, z4, z5, Nat.reduceAdd] at hF hR hK ⊢
      obtain ⟨r14, -⟩ := hR
      generalize vs 14 = x14 at *
      subst r14
      go_simp
      exact hK _ _ _ hI (Step.refl hI) rfl
    · intro vs g w2 hI hF hR K hK
      simp only [Facts, fill, Act.put, z1, z2, z3, z4, z5, Nat.reduceAdd] at hF hR hK ⊢
      obtain ⟨r14, r19, -⟩ := hR
      generalize vs 14 = x14, vs 19 = x19 at *
      subst r14 r19
      go_simp
      exact hK _ _ _ hI (Step.refl hI) rfl
    · intro vs g w2 hI hF hR K hK
      simp only [Facts, fill, Act.put, z1, z2, z3, z4, z5, Nat.reduceAdd] at hF hR hK ⊢
      obtain ⟨r14, r16, r18, r20, -⟩ := hR
      generalize vs 14 = x14, vs 16 = x16, vs 18 = x18, vs 20 = x20 at *
      subst r14 r16 r18 r20
      go_simp
      exact hK _ _ _ hI (Step.refl hI) rfl
    · intro vs g w2 hI hF hR K hK
      simp only [Facts, fill, Act.put, z1, z2, z3, z4, z5, Nat.reduceAdd] at hF hR hK ⊢
      obtain ⟨r14, r21, -⟩ := hR
      generalize vs 14 = x14, vs 21 = x21 at *
      subst r14 r21
      go_simp
      exact hK _ _ _ hI (Step.refl hI) rfl
    · intro vs g w2 hI hF hR K hK
      simp only [Facts, fill, Act.put, z1, z2, z3, z4, z5, Nat.reduceAdd] at hF hR hK ⊢
      obtain ⟨r22, -⟩ := hR
      generalize vs 22 = x22 at *
      subst r22
      go_simp
      exact hK _ _ _ hI (Step.refl hI) rfl
  case fin =>
    intro vs g wR1 hI hR
    have r23 := hR 23 (by decide)
    simp only [fill, Act.put, z1, z2, z3, z4, z5] at r23 ⊢
    clear hR
    generalize vs 23 = x23 at *
    have C0_R1_0 := Lib.hid (hI.cell C0_W_0.out (by first | exact HO0 | exact HO1 | exact HO2 | assumption))
    have C0_R1_1 := Lib.hid (hI.cell C0_W_1.out (by first | exact HO0 | exact HO1 | exact HO2 | assumption))
    have C1_R1_0 := Lib.hid (hI.cell C1_W_0.out (by first | exact HO0 | exact HO1 | exact HO2 | assumption))
    have C1_R1_1 := Lib.hid (hI.cell C1_W_1.out (by first | exact HO0 | exact HO1 | exact HO2 | assumption))
    have C2_R1_0 := Lib.hid (hI.cell C2_W_0.out (by first | exact HO0 | exact HO1 | exact HO2 | assumption))
    have C2_R1_1 := Lib.hid (hI.cell C2_W_1.out (by first | exact HO0 | exact HO1 | exact HO2 | assumption))
    subst r23
    have hBR1 := hI.below
    have HCR1 := hI.next HOK
    clear hI
    go_wp2
    go_ret
    exact ⟨_, rfl, rfl, hBR1⟩
set_option maxRecDepth 100000 in
set_option maxHeartbeats 4000000 in
theorem gRef8ContTF {c0 : Ctx} {g0 : Gh} {w : World} {xa ya xb yb xp yp : Int} (hI0 : RInv c0 g0 w) (sxa : S xa) (sya : S ya) (sxb : S xb) (syb : S yb) (sxp : S xp) (syp : S yp) (h0 : decide (det xa ya xb yb xp yp = 0) = true) (h1 : withB xa xb xp = false) :
    Calls Tryd.prog 14 #[.agg #[.int .i64 xa, .int .i64 ya], .agg #[.int .i64 xb, .int .i64 yb], .agg #[.int .i64 xp, .int .i64 yp]] w (Gives (fun v _ _ => v = .bool false) g0 w) := by
  have H0 := Lib.hid h0
  have H1 := Lib.hid h1
  clear h0 h1
  obtain ⟨W, hW⟩ : ∃ W, W = ((w.alloc (.cells #[.int .i64 xa, .int .i64 ya] 28)).alloc (.cells #[.int .i64 xb, .int .i64 yb] 28)).alloc (.cells #[.int .i64 xp, .int .i64 yp] 28) := ⟨_, rfl⟩
  have hb0 : Below w.heap.size w W := by rw [hW]; exact ((((Below.refl _ _).alloc (Nat.le_refl _) _).alloc (by simp) _).alloc (by simp; omega) _)
  have HOK := Ctx.ok_lift0 hI0 hb0
  have C0_W_0 := Lib.hid (show W.cell? ⟨w.heap.size, 0, none⟩ = some (.int .i64 xa) by rw [hW]; simp [go_sem])
  have C0_W_1 := Lib.hid (show W.cell? ⟨w.heap.size, 1, none⟩ = some (.int .i64 ya) by rw [hW]; simp [go_sem])
  have HO0 : Off (lift0 g0) (w.heap.size) := lift0_off (hI0.offs _ (by omega))
  have C1_W_0 := Lib.hid (show W.cell? ⟨w.heap.size + 1, 0, none⟩ = some (.int .i64 xb) by rw [hW]; simp [go_sem])
  have C1_W_1 := Lib.hid (show W.cell? ⟨w.heap.size + 1, 1, none⟩ = some (.int .i64 yb) by rw [hW]; simp [go_sem])
  have HO1 : Off (lift0 g0) (w.heap.size + 1) := lift0_off (hI0.offs _ (by omega))
  have C2_W_0 := Lib.hid (show W.cell? ⟨w.heap.size + 1 + 1, 0, none⟩ = some (.int .i64 xp) by rw [hW]; simp [go_sem])
  have C2_W_1 := Lib.hid (show W.cell? ⟨w.heap.size + 1 + 1, 1, none⟩ = some (.int .i64 yp) by rw [hW]; simp [go_sem])
  have HO2 : Off (lift0 g0) (w.heap.size + 1 + 1) := lift0_off (hI0.offs _ (by omega))
  have HW := Lib.hid hW
  clear hW
  go_enter Tryd.func14, Tryd.ntmps14
  go_upto_region 1 with (fail)
  rw [← HW.out]
  refine box_plan0 (c := ⟨w, W, (lift0 g0)⟩) HOK [[], [], [], [(7, 0), (8, 1), (9, 2)], [(10, 3)], [(11, 4)], [(12, 5)], [(12, 5), (13, 6)], [(12, 5)], [(12, 5), (15, 8)], [(12, 5)], [(12, 5), (17, 10)], [(12, 5), (14, 7), (16, 9), (18, 11)], [(12, 5), (19, 12)], [(20, 13)], [(21, 14)], [(21, 14), (22, 15)], [(21, 14)], [(21, 14), (24, 17)], [(21, 14)], [(21, 14), (26, 19)], [(21, 14), (23, 16), (25, 18), (27, 20)], [(21, 14), (28, 21)], [(29, 22)]] [(7, 0), (8, 1), (9, 2), (10, 3), (11, 4), (12, 5), (13, 6), (14, 7), (15, 8), (16, 9), (17, 10), (18, 11), (19, 12), (20, 13), (21, 14), (22, 15), (23, 16), (24, 17), (25, 18), (26, 19), (27, 20), (28, 21), (29, 22), (6, 23)] [
      (fun v _ _ => v = .agg #[.int .i64 xa, .int .i64 ya]),
      (fun v _ _ => v = .agg #[.int .i64 xb, .int .i64 yb]),
      (fun v _ _ => v = .agg #[.int .i64 xp, .int .i64 yp]),
      SignR (det xa ya xb yb xp yp),
      (fun v _ _ => v = .bool true),
      (fun v _ _ => v = .bool true),
      (fun v _ _ => v = .pointer (some ⟨w.heap.size, 0, none⟩)),
      (fun v _ _ => v = .int .i64 xa),
      (fun v _ _ => v = .pointer (some ⟨w.heap.size + 1, 0, none⟩)),
      (fun v _ _ => v = .int .i64 xb),
      (fun v _ _ => v = .pointer (some ⟨w.heap.size + 1 + 1, 0, none⟩)),
      (fun v _ _ => v = .int .i64 xp),
      (fun v _ _ => v = .bool false),
      (fun v _ _ => v = .bool false),
      (fun v _ _ => v = .bool false),
      (fun v _ _ => v = undef),
      (fun v _ _ => v = undef),
      (fun v _ _ => v = undef),
      (fun v _ _ => v = undef),
      (fun v _ _ => v = undef),
      (fun v _ _ => v = undef),
      (fun v _ _ => v = undef),
      (fun v _ _ => v = .bool false),
      (fun v _ _ => v = .bool false)
    ] (fun _ => none) (by kernel_rfl) (by kernel_rfl) ⟨stab_eq, stab_eq, stab_eq, stab_firm (signR_firm _), stab_eq, stab_eq, stab_eq, stab_eq, stab_eq, stab_eq, stab_eq, stab_eq, stab_eq, stab_eq, stab_eq, stab_eq, stab_eq, stab_eq, stab_eq, stab_eq, stab_eq, stab_eq, stab_eq, stab_eq, trivial⟩ ?steps ?fin
  case steps =>
    refine ⟨?_, ?_, ?_, ?_, ?_, ?_, ?_, ?_, ?_, ?_, ?_, ?_, ?_, ?_, ?_, ?_, ?_, ?_, ?_, ?_, ?_, ?_, ?_, ?_, trivial⟩
    · intro vs g w2 hI hF hR K hK
      simp only [Facts, fill, Act.put, z1, z2, z3, z4, z5, Nat.reduceAdd] at hF hR hK ⊢
      have k0 := hI.cell C0_W_0.out (by first | exact HO0 | exact HO1 | exact HO2 | assumption)
      have k1 := hI.cell C0_W_1.out (by first | exact HO0 | exact HO1 | exact HO2 | assumption)
      go_simp
      exact hK _ _ _ hI (Step.refl hI) rfl
    · intro vs g w2 hI hF hR K hK
      simp only [Facts, fill, Act.put, z1, z2, z3, z4, z5, Nat.reduceAdd] at hF hR hK ⊢
      have k0 := hI.cell C1_W_0.out (by first | exact HO0 | exact HO1 | exact HO2 | assumption)
      have k1 := hI.cell C1_W_1.out (by first | exact HO0 | exact HO1 | exact HO2 | assumption)
      go_simp
      exact hK _ _ _ hI (Step.refl hI) rfl
    · intro vs g w2 hI hF hR K hK
      simp only [Facts, fill, Act.put, z1, z2, z3, z4, z5, Nat.reduceAdd] at hF hR hK ⊢
      have k0 := hI.cell C2_W_0.out (by first | exact HO0 | exact HO1 | exact HO2 | assumption)
      have k1 := hI.cell C2_W_1.out (by first | exact HO0 | exact HO1 | exact HO2 | assumption)
      go_simp
      exact hK _ _ _ hI (Step.refl hI) rfl
    · intro vs g w2 hI hF hR K hK
      simp only [Facts, fill, Act.put, z1, z2, z3, z4, z5, Nat.reduceAdd] at hF hR hK ⊢
      obtain ⟨r0, r1, r2, -⟩ := hR
      generalize vs 0 = x0, vs 1 = x1, vs 2 = x2 at *
      subst r0 r1 r2
      go_simp
      refine (gRef6Sign hI (by first | assumption | (unfold S; decide)) (by first | assumption | (unfold S; decide)) (by first | assumption | (unfold S; decide)) (by first | assumption | (unfold S; decide)) (by first | assumption | (unfold S; decide)) (by first | assumption | (unfold S; decide))).mono ?_
      rintro e w3 ⟨v3, rfl, hv, hb⟩
      exact hK _ _ _ (hI.call hb) (Step.call hI hb) hv
    · intro vs g w2 hI hF hR K hK
      simp only [Facts, fill, Act.put, z1, z2, z3, z4, z5, Nat.reduceAdd] at hF hR hK ⊢
      obtain ⟨r3, -⟩ := hR
      generalize vs 3 = x3 at *
      have q := r3
      obtain ⟨s0, rfl, -⟩ := r3
      have hz := sgn0_t q H0.out
      clear q
      go_simp
      exact hK _ _ _ hI (Step.refl hI) rfl
    · intro vs g w2 hI hF hR K hK
      simp only [Facts, fill, Act.put, z1, z2, z3, z4, z5, Nat.reduceAdd] at hF hR hK ⊢
      obtain ⟨r4, -⟩ := hR
      generalize vs 4 = x4 at *
      subst r4
      go_simp
      exact hK _ _ _ hI (Step.refl hI) rfl
    · intro vs g w2 hI hF hR K hK
      simp only [Facts, fill, Act.put, z1, z2, z3, z4, z5, Nat.reduceAdd] at hF hR hK ⊢
      obtain ⟨r5, -⟩ := hR
      generalize vs 5 = x5 at *
      subst r5
      go_simp
      exact hK _ _ _ hI (Step.refl hI) rfl
    · intro vs g w2 hI hF hR K hK
      simp only [Facts, fill, Act.put, z1, z2, z3, z4, z5, Nat.reduceAdd] at hF hR hK ⊢
      obtain ⟨r5, r6, -⟩ := hR
      generalize vs 5 = x5, vs 6 = x6 at *
      subst r5 r6
      have k0 := hI.cell C0_W_0.out (by first | exact HO0 | exact HO1 | exact HO2 | assumption)
      go_simp
      exact hK _ _ _ hI (Step.refl hI) rfl
    · intro vs g w2 hI hF hR K hK
      simp only [Facts, fill, Act.put, z1, z2, z3, z4, z5, Nat.reduceAdd] at hF hR hK ⊢
      obtain ⟨r5, -⟩ := hR
      generalize vs 5 = x5 at *
      subst r5
      go_simp
      exact hK _ _ _ hI (Step.refl hI) rfl
    · intro vs g w2 hI hF hR K hK
      simp only [Facts, fill, Act.put, z1, z2, z3, z4, z5, Nat.reduceAdd] at hF hR hK ⊢
      obtain ⟨r5, r8, -⟩ := hR
      generalize vs 5 = x5, vs 8 = x8 at *
      subst r5 r8
      have k0 := hI.cell C1_W_0.out (by first | exact HO0 | exact HO1 | exact HO2 | assumption)
      go_simp
      exact hK _ _ _ hI (Step.refl hI) rfl
    · intro vs g w2 hI hF hR K hK
      simp only [Facts, fill, Act.put, z1, z2, z3, z4, z5, Nat.reduceAdd] at hF hR hK ⊢
      obtain ⟨r5, -⟩ := hR
      generalize vs 5 = x5 at *
      subst r5
      go_simp
      exact hK _ _ _ hI (Step.refl hI) rfl
    · intro vs g w2 hI hF hR K hK
      simp only [Facts, fill, Act.put, z1, z2, z3, z4, z5, Nat.reduceAdd] at hF hR hK ⊢
      obtain ⟨r5, r10, -⟩ := hR
      generalize vs 5 = x5, vs 10 = x10 at *
      subst r5 r10
      have k0 := hI.cell C2_W_0.out (by first | exact HO0 | exact HO1 | exact HO2 | assumption)
      go_simp
      exact hK _ _ _ hI (Step.refl hI) rfl
    · intro vs g w2 hI hF hR K hK
      simp only [Facts, fill, Act.put, z1, z2, z3, z4, z5, Nat.reduceAdd] at hF hR hK ⊢
      obtain ⟨r5, r7, r9, r11, -⟩ := hR
      generalize vs 5 = x5, vs 7 = x7, vs 9 = x9, vs 11 = x11 at *
      subst r5 r7 r9 r11
      go_simp
      refine (gRef8Within hI H1.out).mono ?_
      rintro e w3 ⟨v3, rfl, hv, hb⟩
      exact hK _ _ _ (hI.call hb) (Step.call hI hb) hv
    · intro vs g w2 hI hF hR K hK
      simp only [Facts, fill, Act.put, z1, z2, z3, z4, z5, Nat.reduceAdd] at hF hR hK ⊢
      obtain ⟨r5, r12, -⟩ := hR
      generalize vs 5 = x5, vs 12 = x12 at *
      subst r5 r12
      go_simp
      exact hK _ _ _ hI (Step.refl hI) rfl
    · intro vs g w2 hI hF hR K hK
      simp only [Facts, fill, Act.put, z1, z2, z3, z4, z5, Nat.reduceAdd] at hF hR hK ⊢
      obtain ⟨r13, -⟩ := hR
      generalize vs 13 = x13 at *
      subst r13
      go_simp
      exact hK _ _ _ hI (Step.refl hI) rfl
    · intro vs g w2 hI hF hR K hK
      simp only [Facts, fill, Act.put, z1, z2, z3, z4, z5, Nat.reduceAdd] at hF hR hK ⊢
      obtain ⟨r14, -⟩ := hR
      generalize vs 14 = x14 at *
      subst r14
      go_simp
      exact hK _ _ _ hI (Step.refl hI) rfl
    · intro vs g w2 hI hF hR K hK
      simp only [Facts, fill, Act.put, z1, z2, z3, z4, z5, Nat.reduceAdd] at hF hR hK ⊢
      obtain ⟨r14, r15, -⟩ := hR
      generalize vs 14 = x14, vs 15 = x15 at *
      subst r14 r15
      go_simp
      exact hK _ _ _ hI (Step.refl hI) rfl
    · intro vs g w2 hI hF hR K hK
      simp only [Facts, fill, Act.put, z1, z2, z3, z4, z5, Nat.reduceAdd] at hF hR hK ⊢
      obtain ⟨r14, -⟩ := hR
      generalize vs 14 = x14 at *
      subst r14
      go_simp
      exact hK _ _ _ hI (Step.refl hI) rfl
    · intro vs g w2 hI hF hR K hK
      simp only [Facts, fill, Act.put, z1, z2, z3, z4, z5, Nat.reduceAdd] at hF hR hK ⊢
      obtain ⟨r14, r17, -⟩ := hR
      generalize vs 14 = x14, vs 17 = x17 at *
      subst r14 r17
      go_simp
      exact hK _ _ _ hI (Step.refl hI) rfl
    · intro vs g w2 hI hF hR K hK
      simp only [Facts, fill, Act.put, z1, z2, z3, z4, z5, Nat.reduceAdd] at hF hR hK ⊢
      obtain ⟨r14, -⟩ := hR
      generalize vs 14 = x14 at *
      subst r14
      go_simp
      exact hK _ _ _ hI (Step.refl hI) rfl
    · intro vs g w2 hI hF hR K hK
      simp only [Facts, fill, Act.put, z1, z2, z3, z4, z5, Nat.reduceAdd] at hF hR hK ⊢
      obtain ⟨r14, r19, -⟩ := hR
      generalize vs 14 = x14, vs 19 = x19 at *
      subst r14 r19
      go_simp
      exact hK _ _ _ hI (Step.refl hI) rfl
    · intro vs g w2 hI hF hR K hK
      simp only [Facts, fill, Act.put, z1, z2, z3, z4, z5, Nat.reduceAdd] at hF hR hK ⊢
      obtain ⟨r14, r16, r18, r20, -⟩ := hR
      generalize vs 14 = x14, vs 16 = x16, vs 18 = x18, vs 20 = x20 at *
      subst r14 r16 r18 r20
      go_simp
      exact hK _ _ _ hI (Step.refl hI) rfl
    · intro vs g w2 hI hF hR K hK
      simp only [Facts, fill, Act.put, z1, z2, z3, z4, z5, Nat.reduceAdd] at hF hR hK ⊢
      obtain ⟨r14, r21, -⟩ := hR
      generalize vs 14 = x14, vs 21 = x21 at *
      subst r14 r21
      go_simp
      exact hK _ _ _ hI (Step.refl hI) rfl
    · intro vs g w2 hI hF hR K hK
      simp only [Facts, fill, Act.put, z1, z2, z3, z4, z5, Nat.reduceAdd] at hF hR hK ⊢
      obtain ⟨r22, -⟩ := hR
      generalize vs 22 = x22 at *
      subst r22
      go_simp
      exact hK _ _ _ hI (Step.refl hI) rfl
  case fin =>
    intro vs g wR1 hI hR
    have r23 := hR 23 (by decide)
    simp only [fill, Act.put, z1, z2, z3, z4, z5] at r23 ⊢
    clear hR
    generalize vs 23 = x23 at *
    have C0_R1_0 := Lib.hid (hI.cell C0_W_0.out (by first | exact HO0 | exact HO1 | exact HO2 | assumption))
    have C0_R1_1 := Lib.hid (hI.cell C0_W_1.out (by first | exact HO0 | exact HO1 | exact HO2 | assumption))
    have C1_R1_0 := Lib.hid (hI.cell C1_W_0.out (by first | exact HO0 | exact HO1 | exact HO2 | assumption))
    have C1_R1_1 := Lib.hid (hI.cell C1_W_1.out (by first | exact HO0 | exact HO1 | exact HO2 | assumption))
    have C2_R1_0 := Lib.hid (hI.cell C2_W_0.out (by first | exact HO0 | exact HO1 | exact HO2 | assumption))
    have C2_R1_1 := Lib.hid (hI.cell C2_W_1.out (by first | exact HO0 | exact HO1 | exact HO2 | assumption))
    subst r23
    have hBR1 := hI.below
    have HCR1 := hI.next HOK
    clear hI
    go_wp2
    go_ret
    exact ⟨_, rfl, rfl, hBR1⟩
set_option maxRecDepth 100000 in
set_option maxHeartbeats 4000000 in
theorem gRef8ContTTF {c0 : Ctx} {g0 : Gh} {w : World} {xa ya xb yb xp yp : Int} (hI0 : RInv c0 g0 w) (sxa : S xa) (sya : S ya) (sxb : S xb) (syb : S yb) (sxp : S xp) (syp : S yp) (h0 : decide (det xa ya xb yb xp yp = 0) = true) (h1 : withB xa xb xp = true) (h2 : withB ya yb yp = false) :
    Calls Tryd.prog 14 #[.agg #[.int .i64 xa, .int .i64 ya], .agg #[.int .i64 xb, .int .i64 yb], .agg #[.int .i64 xp, .int .i64 yp]] w (Gives (fun v _ _ => v = .bool false) g0 w) := by
  have H0 := Lib.hid h0
  have H1 := Lib.hid h1
  have H2 := Lib.hid h2
  clear h0 h1 h2
  obtain ⟨W, hW⟩ : ∃ W, W = ((w.alloc (.cells #[.int .i64 xa, .int .i64 ya] 28)).alloc (.cells #[.int .i64 xb, .int .i64 yb] 28)).alloc (.cells #[.int .i64 xp, .int .i64 yp] 28) := ⟨_, rfl⟩
  have hb0 : Below w.heap.size w W := by rw [hW]; exact ((((Below.refl _ _).alloc (Nat.le_refl _) _).alloc (by simp) _).alloc (by simp; omega) _)
  have HOK := Ctx.ok_lift0 hI0 hb0
  have C0_W_0 := Lib.hid (show W.cell? ⟨w.heap.size, 0, none⟩ = some (.int .i64 xa) by rw [hW]; simp [go_sem])
  have C0_W_1 := Lib.hid (show W.cell? ⟨w.heap.size, 1, none⟩ = some (.int .i64 ya) by rw [hW]; simp [go_sem])
  have HO0 : Off (lift0 g0) (w.heap.size) := lift0_off (hI0.offs _ (by omega))
  have C1_W_0 := Lib.hid (show W.cell? ⟨w.heap.size + 1, 0, none⟩ = some (.int .i64 xb) by rw [hW]; simp [go_sem])
  have C1_W_1 := Lib.hid (show W.cell? ⟨w.heap.size + 1, 1, none⟩ = some (.int .i64 yb) by rw [hW]; simp [go_sem])
  have HO1 : Off (lift0 g0) (w.heap.size + 1) := lift0_off (hI0.offs _ (by omega))
  have C2_W_0 := Lib.hid (show W.cell? ⟨w.heap.size + 1 + 1, 0, none⟩ = some (.int .i64 xp) by rw [hW]; simp [go_sem])
  have C2_W_1 := Lib.hid (show W.cell? ⟨w.heap.size + 1 + 1, 1, none⟩ = some (.int .i64 yp) by rw [hW]; simp [go_sem])
  have HO2 : Off (lift0 g0) (w.heap.size + 1 + 1) := lift0_off (hI0.offs _ (by omega))
  have HW := Lib.hid hW
  clear hW
  go_enter Tryd.func14, Tryd.ntmps14
  go_upto_region 1 with (fail)
  rw [← HW.out]
  refine box_plan0 (c := ⟨w, W, (lift0 g0)⟩) HOK [[], [], [], [(7, 0), (8, 1), (9, 2)], [(10, 3)], [(11, 4)], [(12, 5)], [(12, 5), (13, 6)], [(12, 5)], [(12, 5), (15, 8)], [(12, 5)], [(12, 5), (17, 10)], [(12, 5), (14, 7), (16, 9), (18, 11)], [(12, 5), (19, 12)], [(20, 13)], [(21, 14)], [(21, 14), (22, 15)], [(21, 14)], [(21, 14), (24, 17)], [(21, 14)], [(21, 14), (26, 19)], [(21, 14), (23, 16), (25, 18), (27, 20)], [(21, 14), (28, 21)], [(29, 22)]] [(7, 0), (8, 1), (9, 2), (10, 3), (11, 4), (12, 5), (13, 6), (14, 7), (15, 8), (16, 9), (17, 10), (18, 11), (19, 12), (20, 13), (21, 14), (22, 15), (23, 16), (24, 17), (25, 18), (26, 19), (27, 20), (28, 21), (29, 22), (6, 23)] [
      (fun v _ _ => v = .agg #[.int .i64 xa, .int .i64 ya]),
      (fun v _ _ => v = .agg #[.int .i64 xb, .int .i64 yb]),
      (fun v _ _ => v = .agg #[.int .i64 xp, .int .i64 yp]),
      SignR (det xa ya xb yb xp yp),
      (fun v _ _ => v = .bool true),
      (fun v _ _ => v = .bool true),
      (fun v _ _ => v = .pointer (some ⟨w.heap.size, 0, none⟩)),
      (fun v _ _ => v = .int .i64 xa),
      (fun v _ _ => v = .pointer (some ⟨w.heap.size + 1, 0, none⟩)),
      (fun v _ _ => v = .int .i64 xb),
      (fun v _ _ => v = .pointer (some ⟨w.heap.size + 1 + 1, 0, none⟩)),
      (fun v _ _ => v = .int .i64 xp),
      (fun v _ _ => v = .bool true),
      (fun v _ _ => v = .bool true),
      (fun v _ _ => v = .bool true),
      (fun v _ _ => v = .pointer (some ⟨w.heap.size, 1, none⟩)),
      (fun v _ _ => v = .int .i64 ya),
      (fun v _ _ => v = .pointer (some ⟨w.heap.size + 1, 1, none⟩)),
      (fun v _ _ => v = .int .i64 yb),
      (fun v _ _ => v = .pointer (some ⟨w.heap.size + 1 + 1, 1, none⟩)),
      (fun v _ _ => v = .int .i64 yp),
      (fun v _ _ => v = .bool false),
      (fun v _ _ => v = .bool false),
      (fun v _ _ => v = .bool false)
    ] (fun _ => none) (by kernel_rfl) (by kernel_rfl) ⟨stab_eq, stab_eq, stab_eq, stab_firm (signR_firm _), stab_eq, stab_eq, stab_eq, stab_eq, stab_eq, stab_eq, stab_eq, stab_eq, stab_eq, stab_eq, stab_eq, stab_eq, stab_eq, stab_eq, stab_eq, stab_eq, stab_eq, stab_eq, stab_eq, stab_eq, trivial⟩ ?steps ?fin
  case steps =>
    refine ⟨?_, ?_, ?_, ?_, ?_, ?_, ?_, ?_, ?_, ?_, ?_, ?_, ?_, ?_, ?_, ?_, ?_, ?_, ?_, ?_, ?_, ?_, ?_, ?_, trivial⟩
    · intro vs g w2 hI hF hR K hK
      simp only [Facts, fill, Act.put, z1, z2, z3, z4, z5, Nat.reduceAdd] at hF hR hK ⊢
      have k0 := hI.cell C0_W_0.out (by first | exact HO0 | exact HO1 | exact HO2 | assumption)
      have k1 := hI.cell C0_W_1.out (by first | exact HO0 | exact HO1 | exact HO2 | assumption)
      go_simp
      exact hK _ _ _ hI (Step.refl hI) rfl
    · intro vs g w2 hI hF hR K hK
      simp only [Facts, fill, Act.put, z1, z2, z3, z4, z5, Nat.reduceAdd] at hF hR hK ⊢
      have k0 := hI.cell C1_W_0.out (by first | exact HO0 | exact HO1 | exact HO2 | assumption)
      have k1 := hI.cell C1_W_1.out (by first | exact HO0 | exact HO1 | exact HO2 | assumption)
      go_simp
      exact hK _ _ _ hI (Step.refl hI) rfl
    · intro vs g w2 hI hF hR K hK
      simp only [Facts, fill, Act.put, z1, z2, z3, z4, z5, Nat.reduceAdd] at hF hR hK ⊢
      have k0 := hI.cell C2_W_0.out (by first | exact HO0 | exact HO1 | exact HO2 | assumption)
      have k1 := hI.cell C2_W_1.out (by first | exact HO0 | exact HO1 | exact HO2 | assumption)
      go_simp
      exact hK _ _ _ hI (Step.refl hI) rfl
    · intro vs g w2 hI hF hR K hK
      simp only [Facts, fill, Act.put, z1, z2, z3, z4, z5, Nat.reduceAdd] at hF hR hK ⊢
      obtain ⟨r0, r1, r2, -⟩ := hR
      generalize vs 0 = x0, vs 1 = x1, vs 2 = x2 at *
      subst r0 r1 r2
      go_simp
      refine (gRef6Sign hI (by first | assumption | (unfold S; decide)) (by first | assumption | (unfold S; decide)) (by first | assumption | (unfold S; decide)) (by first | assumption | (unfold S; decide)) (by first | assumption | (unfold S; decide)) (by first | assumption | (unfold S; decide))).mono ?_
      rintro e w3 ⟨v3, rfl, hv, hb⟩
      exact hK _ _ _ (hI.call hb) (Step.call hI hb) hv
    · intro vs g w2 hI hF hR K hK
      simp only [Facts, fill, Act.put, z1, z2, z3, z4, z5, Nat.reduceAdd] at hF hR hK ⊢
      obtain ⟨r3, -⟩ := hR
      generalize vs 3 = x3 at *
      have q := r3
      obtain ⟨s0, rfl, -⟩ := r3
      have hz := sgn0_t q H0.out
      clear q
      go_simp
      exact hK _ _ _ hI (Step.refl hI) rfl
    · intro vs g w2 hI hF hR K hK
      simp only [Facts, fill, Act.put, z1, z2, z3, z4, z5, Nat.reduceAdd] at hF hR hK ⊢
      obtain ⟨r4, -⟩ := hR
      generalize vs 4 = x4 at *
      subst r4
      go_simp
      exact hK _ _ _ hI (Step.refl hI) rfl
    · intro vs g w2 hI hF hR K hK
      simp only [Facts, fill, Act.put, z1, z2, z3, z4, z5, Nat.reduceAdd] at hF hR hK ⊢
      obtain ⟨r5, -⟩ := hR
      generalize vs 5 = x5 at *
      subst r5
      go_simp
      exact hK _ _ _ hI (Step.refl hI) rfl
    · intro vs g w2 hI hF hR K hK
      simp only [Facts, fill, Act.put, z1, z2, z3, z4, z5, Nat.reduceAdd] at hF hR hK ⊢
      obtain ⟨r5, r6, -⟩ := hR
      generalize vs 5 = x5, vs 6 = x6 at *
      subst r5 r6
      have k0 := hI.cell C0_W_0.out (by first | exact HO0 | exact HO1 | exact HO2 | assumption)
      go_simp
      exact hK _ _ _ hI (Step.refl hI) rfl
    · intro vs g w2 hI hF hR K hK
      simp only [Facts, fill, Act.put, z1, z2, z3, z4, z5, Nat.reduceAdd] at hF hR hK ⊢
      obtain ⟨r5, -⟩ := hR
      generalize vs 5 = x5 at *
      subst r5
      go_simp
      exact hK _ _ _ hI (Step.refl hI) rfl
    · intro vs g w2 hI hF hR K hK
      simp only [Facts, fill, Act.put, z1, z2, z3, z4, z5, Nat.reduceAdd] at hF hR hK ⊢
      obtain ⟨r5, r8, -⟩ := hR
      generalize vs 5 = x5, vs 8 = x8 at *
      subst r5 r8
      have k0 := hI.cell C1_W_0.out (by first | exact HO0 | exact HO1 | exact HO2 | assumption)
      go_simp
      exact hK _ _ _ hI (Step.refl hI) rfl
    · intro vs g w2 hI hF hR K hK
      simp only [Facts, fill, Act.put, z1, z2, z3, z4, z5, Nat.reduceAdd] at hF hR hK ⊢
      obtain ⟨r5, -⟩ := hR
      generalize vs 5 = x5 at *
      subst r5
      go_simp
      exact hK _ _ _ hI (Step.refl hI) rfl
    · intro vs g w2 hI hF hR K hK
      simp only [Facts, fill, Act.put, z1, z2, z3, z4, z5, Nat.reduceAdd] at hF hR hK ⊢
      obtain ⟨r5, r10, -⟩ := hR
      generalize vs 5 = x5, vs 10 = x10 at *
      subst r5 r10
      have k0 := hI.cell C2_W_0.out (by first | exact HO0 | exact HO1 | exact HO2 | assumption)
      go_simp
      exact hK _ _ _ hI (Step.refl hI) rfl
    · intro vs g w2 hI hF hR K hK
      simp only [Facts, fill, Act.put, z1, z2, z3, z4, z5, Nat.reduceAdd] at hF hR hK ⊢
      obtain ⟨r5, r7, r9, r11, -⟩ := hR
      generalize vs 5 = x5, vs 7 = x7, vs 9 = x9, vs 11 = x11 at *
      subst r5 r7 r9 r11
      go_simp
      refine (gRef8Within hI H1.out).mono ?_
      rintro e w3 ⟨v3, rfl, hv, hb⟩
      exact hK _ _ _ (hI.call hb) (Step.call hI hb) hv
    · intro vs g w2 hI hF hR K hK
      simp only [Facts, fill, Act.put, z1, z2, z3, z4, z5, Nat.reduceAdd] at hF hR hK ⊢
      obtain ⟨r5, r12, -⟩ := hR
      generalize vs 5 = x5, vs 12 = x12 at *
      subst r5 r12
      go_simp
      exact hK _ _ _ hI (Step.refl hI) rfl
    · intro vs g w2 hI hF hR K hK
      simp only [Facts, fill, Act.put, z1, z2, z3, z4, z5, Nat.reduceAdd] at hF hR hK ⊢
      obtain ⟨r13, -⟩ := hR
      generalize vs 13 = x13 at *
      subst r13
      go_simp
      exact hK _ _ _ hI (Step.refl hI) rfl
    · intro vs g w2 hI hF hR K hK
      simp only [Facts, fill, Act.put, z1, z2, z3, z4, z5, Nat.reduceAdd] at hF hR hK ⊢
      obtain ⟨r14, -⟩ := hR
      generalize vs 14 = x14 at *
      subst r14
      go_simp
      exact hK _ _ _ hI (Step.refl hI) rfl
    · intro vs g w2 hI hF hR K hK
      simp only [Facts, fill, Act.put, z1, z2, z3, z4, z5, Nat.reduceAdd] at hF hR hK ⊢
      obtain ⟨r14, r15, -⟩ := hR
      generalize vs 14 = x14, vs 15 = x15 at *
      subst r14 r15
      have k0 := hI.cell C0_W_1.out (by first | exact HO0 | exact HO1 | exact HO2 | assumption)
      go_simp
      exact hK _ _ _ hI (Step.refl hI) rfl
    · intro vs g w2 hI hF hR K hK
      simp only [Facts, fill, Act.put, z1, z2, z3, z4, z5, Nat.reduceAdd] at hF hR hK ⊢
      obtain ⟨r14, -⟩ := hR
      generalize vs 14 = x14 at *
      subst r14
      go_simp
      exact hK _ _ _ hI (Step.refl hI) rfl
    · intro vs g w2 hI hF hR K hK
      simp only [Facts, fill, Act.put, z1, z2, z3, z4, z5, Nat.reduceAdd] at hF hR hK ⊢
      obtain ⟨r14, r17, -⟩ := hR
      generalize vs 14 = x14, vs 17 = x17 at *
      subst r14 r17
      have k0 := hI.cell C1_W_1.out (by first | exact HO0 | exact HO1 | exact HO2 | assumption)
      go_simp
      exact hK _ _ _ hI (Step.refl hI) rfl
    · intro vs g w2 hI hF hR K hK
      simp only [Facts, fill, Act.put, z1, z2, z3, z4, z5, Nat.reduceAdd] at hF hR hK ⊢
      obtain ⟨r14, -⟩ := hR
      generalize vs 14 = x14 at *
      subst r14
      go_simp
      exact hK _ _ _ hI (Step.refl hI) rfl
    · intro vs g w2 hI hF hR K hK
      simp only [Facts, fill, Act.put, z1, z2, z3, z4, z5, Nat.reduceAdd] at hF hR hK ⊢
      obtain ⟨r14, r19, -⟩ := hR
      generalize vs 14 = x14, vs 19 = x19 at *
      subst r14 r19
      have k0 := hI.cell C2_W_1.out (by first | exact HO0 | exact HO1 | exact HO2 | assumption)
      go_simp
      exact hK _ _ _ hI (Step.refl hI) rfl
    · intro vs g w2 hI hF hR K hK
      simp only [Facts, fill, Act.put, z1, z2, z3, z4, z5, Nat.reduceAdd] at hF hR hK ⊢
      obtain ⟨r14, r16, r18, r20, -⟩ := hR
      generalize vs 14 = x14, vs 16 = x16, vs 18 = x18, vs 20 = x20 at *
      subst r14 r16 r18 r20
      go_simp
      refine (gRef8Within hI H2.out).mono ?_
      rintro e w3 ⟨v3, rfl, hv, hb⟩
      exact hK _ _ _ (hI.call hb) (Step.call hI hb) hv
    · intro vs g w2 hI hF hR K hK
      simp only [Facts, fill, Act.put, z1, z2, z3, z4, z5, Nat.reduceAdd] at hF hR hK ⊢
      obtain ⟨r14, r21, -⟩ := hR
      generalize vs 14 = x14, vs 21 = x21 at *
      subst r14 r21
      go_simp
      exact hK _ _ _ hI (Step.refl hI) rfl
    · intro vs g w2 hI hF hR K hK
      simp only [Facts, fill, Act.put, z1, z2, z3, z4, z5, Nat.reduceAdd] at hF hR hK ⊢
      obtain ⟨r22, -⟩ := hR
      generalize vs 22 = x22 at *
      subst r22
      go_simp
      exact hK _ _ _ hI (Step.refl hI) rfl
  case fin =>
    intro vs g wR1 hI hR
    have r23 := hR 23 (by decide)
    simp only [fill, Act.put, z1, z2, z3, z4, z5] at r23 ⊢
    clear hR
    generalize vs 23 = x23 at *
    have C0_R1_0 := Lib.hid (hI.cell C0_W_0.out (by first | exact HO0 | exact HO1 | exact HO2 | assumption))
    have C0_R1_1 := Lib.hid (hI.cell C0_W_1.out (by first | exact HO0 | exact HO1 | exact HO2 | assumption))
    have C1_R1_0 := Lib.hid (hI.cell C1_W_0.out (by first | exact HO0 | exact HO1 | exact HO2 | assumption))
    have C1_R1_1 := Lib.hid (hI.cell C1_W_1.out (by first | exact HO0 | exact HO1 | exact HO2 | assumption))
    have C2_R1_0 := Lib.hid (hI.cell C2_W_0.out (by first | exact HO0 | exact HO1 | exact HO2 | assumption))
    have C2_R1_1 := Lib.hid (hI.cell C2_W_1.out (by first | exact HO0 | exact HO1 | exact HO2 | assumption))
    subst r23
    have hBR1 := hI.below
    have HCR1 := hI.next HOK
    clear hI
    go_wp2
    go_ret
    exact ⟨_, rfl, rfl, hBR1⟩
set_option maxRecDepth 100000 in
set_option maxHeartbeats 4000000 in
theorem gRef8ContTTT {c0 : Ctx} {g0 : Gh} {w : World} {xa ya xb yb xp yp : Int} (hI0 : RInv c0 g0 w) (sxa : S xa) (sya : S ya) (sxb : S xb) (syb : S yb) (sxp : S xp) (syp : S yp) (h0 : decide (det xa ya xb yb xp yp = 0) = true) (h1 : withB xa xb xp = true) (h2 : withB ya yb yp = true) :
    Calls Tryd.prog 14 #[.agg #[.int .i64 xa, .int .i64 ya], .agg #[.int .i64 xb, .int .i64 yb], .agg #[.int .i64 xp, .int .i64 yp]] w (Gives (fun v _ _ => v = .bool true) g0 w) := by
  have H0 := Lib.hid h0
  have H1 := Lib.hid h1
  have H2 := Lib.hid h2
  clear h0 h1 h2
  obtain ⟨W, hW⟩ : ∃ W, W = ((w.alloc (.cells #[.int .i64 xa, .int .i64 ya] 28)).alloc (.cells #[.int .i64 xb, .int .i64 yb] 28)).alloc (.cells #[.int .i64 xp, .int .i64 yp] 28) := ⟨_, rfl⟩
  have hb0 : Below w.heap.size w W := by rw [hW]; exact ((((Below.refl _ _).alloc (Nat.le_refl _) _).alloc (by simp) _).alloc (by simp; omega) _)
  have HOK := Ctx.ok_lift0 hI0 hb0
  have C0_W_0 := Lib.hid (show W.cell? ⟨w.heap.size, 0, none⟩ = some (.int .i64 xa) by rw [hW]; simp [go_sem])
  have C0_W_1 := Lib.hid (show W.cell? ⟨w.heap.size, 1, none⟩ = some (.int .i64 ya) by rw [hW]; simp [go_sem])
  have HO0 : Off (lift0 g0) (w.heap.size) := lift0_off (hI0.offs _ (by omega))
  have C1_W_0 := Lib.hid (show W.cell? ⟨w.heap.size + 1, 0, none⟩ = some (.int .i64 xb) by rw [hW]; simp [go_sem])
  have C1_W_1 := Lib.hid (show W.cell? ⟨w.heap.size + 1, 1, none⟩ = some (.int .i64 yb) by rw [hW]; simp [go_sem])
  have HO1 : Off (lift0 g0) (w.heap.size + 1) := lift0_off (hI0.offs _ (by omega))
  have C2_W_0 := Lib.hid (show W.cell? ⟨w.heap.size + 1 + 1, 0, none⟩ = some (.int .i64 xp) by rw [hW]; simp [go_sem])
  have C2_W_1 := Lib.hid (show W.cell? ⟨w.heap.size + 1 + 1, 1, none⟩ = some (.int .i64 yp) by rw [hW]; simp [go_sem])
  have HO2 : Off (lift0 g0) (w.heap.size + 1 + 1) := lift0_off (hI0.offs _ (by omega))
  have HW := Lib.hid hW
  clear hW
  go_enter Tryd.func14, Tryd.ntmps14
  go_upto_region 1 with (fail)
  rw [← HW.out]
  refine box_plan0 (c := ⟨w, W, (lift0 g0)⟩) HOK [[], [], [], [(7, 0), (8, 1), (9, 2)], [(10, 3)], [(11, 4)], [(12, 5)], [(12, 5), (13, 6)], [(12, 5)], [(12, 5), (15, 8)], [(12, 5)], [(12, 5), (17, 10)], [(12, 5), (14, 7), (16, 9), (18, 11)], [(12, 5), (19, 12)], [(20, 13)], [(21, 14)], [(21, 14), (22, 15)], [(21, 14)], [(21, 14), (24, 17)], [(21, 14)], [(21, 14), (26, 19)], [(21, 14), (23, 16), (25, 18), (27, 20)], [(21, 14), (28, 21)], [(29, 22)]] [(7, 0), (8, 1), (9, 2), (10, 3), (11, 4), (12, 5), (13, 6), (14, 7), (15, 8), (16, 9), (17, 10), (18, 11), (19, 12), (20, 13), (21, 14), (22, 15), (23, 16), (24, 17), (25, 18), (26, 19), (27, 20), (28, 21), (29, 22), (6, 23)] [
      (fun v _ _ => v = .agg #[.int .i64 xa, .int .i64 ya]),
      (fun v _ _ => v = .agg #[.int .i64 xb, .int .i64 yb]),
      (fun v _ _ => v = .agg #[.int .i64 xp, .int .i64 yp]),
      SignR (det xa ya xb yb xp yp),
      (fun v _ _ => v = .bool true),
      (fun v _ _ => v = .bool true),
      (fun v _ _ => v = .pointer (some ⟨w.heap.size, 0, none⟩)),
      (fun v _ _ => v = .int .i64 xa),
      (fun v _ _ => v = .pointer (some ⟨w.heap.size + 1, 0, none⟩)),
      (fun v _ _ => v = .int .i64 xb),
      (fun v _ _ => v = .pointer (some ⟨w.heap.size + 1 + 1, 0, none⟩)),
      (fun v _ _ => v = .int .i64 xp),
      (fun v _ _ => v = .bool true),
      (fun v _ _ => v = .bool true),
      (fun v _ _ => v = .bool true),
      (fun v _ _ => v = .pointer (some ⟨w.heap.size, 1, none⟩)),
      (fun v _ _ => v = .int .i64 ya),
      (fun v _ _ => v = .pointer (some ⟨w.heap.size + 1, 1, none⟩)),
      (fun v _ _ => v = .int .i64 yb),
      (fun v _ _ => v = .pointer (some ⟨w.heap.size + 1 + 1, 1, none⟩)),
      (fun v _ _ => v = .int .i64 yp),
      (fun v _ _ => v = .bool true),
      (fun v _ _ => v = .bool true),
      (fun v _ _ => v = .bool true)
    ] (fun _ => none) (by kernel_rfl) (by kernel_rfl) ⟨stab_eq, stab_eq, stab_eq, stab_firm (signR_firm _), stab_eq, stab_eq, stab_eq, stab_eq, stab_eq, stab_eq, stab_eq, stab_eq, stab_eq, stab_eq, stab_eq, stab_eq, stab_eq, stab_eq, stab_eq, stab_eq, stab_eq, stab_eq, stab_eq, stab_eq, trivial⟩ ?steps ?fin
  case steps =>
    refine ⟨?_, ?_, ?_, ?_, ?_, ?_, ?_, ?_, ?_, ?_, ?_, ?_, ?_, ?_, ?_, ?_, ?_, ?_, ?_, ?_, ?_, ?_, ?_, ?_, trivial⟩
    · intro vs g w2 hI hF hR K hK
      simp only [Facts, fill, Act.put, z1, z2, z3, z4, z5, Nat.reduceAdd] at hF hR hK ⊢
      have k0 := hI.cell C0_W_0.out (by first | exact HO0 | exact HO1 | exact HO2 | assumption)
      have k1 := hI.cell C0_W_1.out (by first | exact HO0 | exact HO1 | exact HO2 | assumption)
      go_simp
      exact hK _ _ _ hI (Step.refl hI) rfl
    · intro vs g w2 hI hF hR K hK
      simp only [Facts, fill, Act.put, z1, z2, z3, z4, z5, Nat.reduceAdd] at hF hR hK ⊢
      have k0 := hI.cell C1_W_0.out (by first | exact HO0 | exact HO1 | exact HO2 | assumption)
      have k1 := hI.cell C1_W_1.out (by first | exact HO0 | exact HO1 | exact HO2 | assumption)
      go_simp
      exact hK _ _ _ hI (Step.refl hI) rfl
    · intro vs g w2 hI hF hR K hK
      simp only [Facts, fill, Act.put, z1, z2, z3, z4, z5, Nat.reduceAdd] at hF hR hK ⊢
      have k0 := hI.cell C2_W_0.out (by first | exact HO0 | exact HO1 | exact HO2 | assumption)
      have k1 := hI.cell C2_W_1.out (by first | exact HO0 | exact HO1 | exact HO2 | assumption)
      go_simp
      exact hK _ _ _ hI (Step.refl hI) rfl
    · intro vs g w2 hI hF hR K hK
      simp only [Facts, fill, Act.put, z1, z2, z3, z4, z5, Nat.reduceAdd] at hF hR hK ⊢
      obtain ⟨r0, r1, r2, -⟩ := hR
      generalize vs 0 = x0, vs 1 = x1, vs 2 = x2 at *
      subst r0 r1 r2
      go_simp
      refine (gRef6Sign hI (by first | assumption | (unfold S; decide)) (by first | assumption | (unfold S; decide)) (by first | assumption | (unfold S; decide)) (by first | assumption | (unfold S; decide)) (by first | assumption | (unfold S; decide)) (by first | assumption | (unfold S; decide))).mono ?_
      rintro e w3 ⟨v3, rfl, hv, hb⟩
      exact hK _ _ _ (hI.call hb) (Step.call hI hb) hv
    · intro vs g w2 hI hF hR K hK
      simp only [Facts, fill, Act.put, z1, z2, z3, z4, z5, Nat.reduceAdd] at hF hR hK ⊢
      obtain ⟨r3, -⟩ := hR
      generalize vs 3 = x3 at *
      have q := r3
      obtain ⟨s0, rfl, -⟩ := r3
      have hz := sgn0_t q H0.out
      clear q
      go_simp
      exact hK _ _ _ hI (Step.refl hI) rfl
    · intro vs g w2 hI hF hR K hK
      simp only [Facts, fill, Act.put, z1, z2, z3, z4, z5, Nat.reduceAdd] at hF hR hK ⊢
      obtain ⟨r4, -⟩ := hR
      generalize vs 4 = x4 at *
      subst r4
      go_simp
      exact hK _ _ _ hI (Step.refl hI) rfl
    · intro vs g w2 hI hF hR K hK
      simp only [Facts, fill, Act.put, z1, z2, z3, z4, z5, Nat.reduceAdd] at hF hR hK ⊢
      obtain ⟨r5, -⟩ := hR
      generalize vs 5 = x5 at *
      subst r5
      go_simp
      exact hK _ _ _ hI (Step.refl hI) rfl
    · intro vs g w2 hI hF hR K hK
      simp only [Facts, fill, Act.put, z1, z2, z3, z4, z5, Nat.reduceAdd] at hF hR hK ⊢
      obtain ⟨r5, r6, -⟩ := hR
      generalize vs 5 = x5, vs 6 = x6 at *
      subst r5 r6
      have k0 := hI.cell C0_W_0.out (by first | exact HO0 | exact HO1 | exact HO2 | assumption)
      go_simp
      exact hK _ _ _ hI (Step.refl hI) rfl
    · intro vs g w2 hI hF hR K hK
      simp only [Facts, fill, Act.put, z1, z2, z3, z4, z5, Nat.reduceAdd] at hF hR hK ⊢
      obtain ⟨r5, -⟩ := hR
      generalize vs 5 = x5 at *
      subst r5
      go_simp
      exact hK _ _ _ hI (Step.refl hI) rfl
    · intro vs g w2 hI hF hR K hK
      simp only [Facts, fill, Act.put, z1, z2, z3, z4, z5, Nat.reduceAdd] at hF hR hK ⊢
      obtain ⟨r5, r8, -⟩ := hR
      generalize vs 5 = x5, vs 8 = x8 at *
      subst r5 r8
      have k0 := hI.cell C1_W_0.out (by first | exact HO0 | exact HO1 | exact HO2 | assumption)
      go_simp
      exact hK _ _ _ hI (Step.refl hI) rfl
    · intro vs g w2 hI hF hR K hK
      simp only [Facts, fill, Act.put, z1, z2, z3, z4, z5, Nat.reduceAdd] at hF hR hK ⊢
      obtain ⟨r5, -⟩ := hR
      generalize vs 5 = x5 at *
      subst r5
      go_simp
      exact hK _ _ _ hI (Step.refl hI) rfl
    · intro vs g w2 hI hF hR K hK
      simp only [Facts, fill, Act.put, z1, z2, z3, z4, z5, Nat.reduceAdd] at hF hR hK ⊢
      obtain ⟨r5, r10, -⟩ := hR
      generalize vs 5 = x5, vs 10 = x10 at *
      subst r5 r10
      have k0 := hI.cell C2_W_0.out (by first | exact HO0 | exact HO1 | exact HO2 | assumption)
      go_simp
      exact hK _ _ _ hI (Step.refl hI) rfl
    · intro vs g w2 hI hF hR K hK
      simp only [Facts, fill, Act.put, z1, z2, z3, z4, z5, Nat.reduceAdd] at hF hR hK ⊢
      obtain ⟨r5, r7, r9, r11, -⟩ := hR
      generalize vs 5 = x5, vs 7 = x7, vs 9 = x9, vs 11 = x11 at *
      subst r5 r7 r9 r11
      go_simp
      refine (gRef8Within hI H1.out).mono ?_
      rintro e w3 ⟨v3, rfl, hv, hb⟩
      exact hK _ _ _ (hI.call hb) (Step.call hI hb) hv
    · intro vs g w2 hI hF hR K hK
      simp only [Facts, fill, Act.put, z1, z2, z3, z4, z5, Nat.reduceAdd] at hF hR hK ⊢
      obtain ⟨r5, r12, -⟩ := hR
      generalize vs 5 = x5, vs 12 = x12 at *
      subst r5 r12
      go_simp
      exact hK _ _ _ hI (Step.refl hI) rfl
    · intro vs g w2 hI hF hR K hK
      simp only [Facts, fill, Act.put, z1, z2, z3, z4, z5, Nat.reduceAdd] at hF hR hK ⊢
      obtain ⟨r13, -⟩ := hR
      generalize vs 13 = x13 at *
      subst r13
      go_simp
      exact hK _ _ _ hI (Step.refl hI) rfl
    · intro vs g w2 hI hF hR K hK
      simp only [Facts, fill, Act.put, z1, z2, z3, z4, z5, Nat.reduceAdd] at hF hR hK ⊢
      obtain ⟨r14, -⟩ := hR
      generalize vs 14 = x14 at *
      subst r14
      go_simp
      exact hK _ _ _ hI (Step.refl hI) rfl
    · intro vs g w2 hI hF hR K hK
      simp only [Facts, fill, Act.put, z1, z2, z3, z4, z5, Nat.reduceAdd] at hF hR hK ⊢
      obtain ⟨r14, r15, -⟩ := hR
      generalize vs 14 = x14, vs 15 = x15 at *
      subst r14 r15
      have k0 := hI.cell C0_W_1.out (by first | exact HO0 | exact HO1 | exact HO2 | assumption)
      go_simp
      exact hK _ _ _ hI (Step.refl hI) rfl
    · intro vs g w2 hI hF hR K hK
      simp only [Facts, fill, Act.put, z1, z2, z3, z4, z5, Nat.reduceAdd] at hF hR hK ⊢
      obtain ⟨r14, -⟩ := hR
      generalize vs 14 = x14 at *
      subst r14
      go_simp
      exact hK _ _ _ hI (Step.refl hI) rfl
    · intro vs g w2 hI hF hR K hK
      simp only [Facts, fill, Act.put, z1, z2, z3, z4, z5, Nat.reduceAdd] at hF hR hK ⊢
      obtain ⟨r14, r17, -⟩ := hR
      generalize vs 14 = x14, vs 17 = x17 at *
      subst r14 r17
      have k0 := hI.cell C1_W_1.out (by first | exact HO0 | exact HO1 | exact HO2 | assumption)
      go_simp
      exact hK _ _ _ hI (Step.refl hI) rfl
    · intro vs g w2 hI hF hR K hK
      simp only [Facts, fill, Act.put, z1, z2, z3, z4, z5, Nat.reduceAdd] at hF hR hK ⊢
      obtain ⟨r14, -⟩ := hR
      generalize vs 14 = x14 at *
      subst r14
      go_simp
      exact hK _ _ _ hI (Step.refl hI) rfl
    · intro vs g w2 hI hF hR K hK
      simp only [Facts, fill, Act.put, z1, z2, z3, z4, z5, Nat.reduceAdd] at hF hR hK ⊢
      obtain ⟨r14, r19, -⟩ := hR
      generalize vs 14 = x14, vs 19 = x19 at *
      subst r14 r19
      have k0 := hI.cell C2_W_1.out (by first | exact HO0 | exact HO1 | exact HO2 | assumption)
      go_simp
      exact hK _ _ _ hI (Step.refl hI) rfl
    · intro vs g w2 hI hF hR K hK
      simp only [Facts, fill, Act.put, z1, z2, z3, z4, z5, Nat.reduceAdd] at hF hR hK ⊢
      obtain ⟨r14, r16, r18, r20, -⟩ := hR
      generalize vs 14 = x14, vs 16 = x16, vs 18 = x18, vs 20 = x20 at *
      subst r14 r16 r18 r20
      go_simp
      refine (gRef8Within hI H2.out).mono ?_
      rintro e w3 ⟨v3, rfl, hv, hb⟩
      exact hK _ _ _ (hI.call hb) (Step.call hI hb) hv
    · intro vs g w2 hI hF hR K hK
      simp only [Facts, fill, Act.put, z1, z2, z3, z4, z5, Nat.reduceAdd] at hF hR hK ⊢
      obtain ⟨r14, r21, -⟩ := hR
      generalize vs 14 = x14, vs 21 = x21 at *
      subst r14 r21
      go_simp
      exact hK _ _ _ hI (Step.refl hI) rfl
    · intro vs g w2 hI hF hR K hK
      simp only [Facts, fill, Act.put, z1, z2, z3, z4, z5, Nat.reduceAdd] at hF hR hK ⊢
      obtain ⟨r22, -⟩ := hR
      generalize vs 22 = x22 at *
      subst r22
      go_simp
      exact hK _ _ _ hI (Step.refl hI) rfl
  case fin =>
    intro vs g wR1 hI hR
    have r23 := hR 23 (by decide)
    simp only [fill, Act.put, z1, z2, z3, z4, z5] at r23 ⊢
    clear hR
    generalize vs 23 = x23 at *
    have C0_R1_0 := Lib.hid (hI.cell C0_W_0.out (by first | exact HO0 | exact HO1 | exact HO2 | assumption))
    have C0_R1_1 := Lib.hid (hI.cell C0_W_1.out (by first | exact HO0 | exact HO1 | exact HO2 | assumption))
    have C1_R1_0 := Lib.hid (hI.cell C1_W_0.out (by first | exact HO0 | exact HO1 | exact HO2 | assumption))
    have C1_R1_1 := Lib.hid (hI.cell C1_W_1.out (by first | exact HO0 | exact HO1 | exact HO2 | assumption))
    have C2_R1_0 := Lib.hid (hI.cell C2_W_0.out (by first | exact HO0 | exact HO1 | exact HO2 | assumption))
    have C2_R1_1 := Lib.hid (hI.cell C2_W_1.out (by first | exact HO0 | exact HO1 | exact HO2 | assumption))
    subst r23
    have hBR1 := hI.below
    have HCR1 := hI.next HOK
    clear hI
    go_wp2
    go_ret
    exact ⟨_, rfl, rfl, hBR1⟩
theorem gRef8Contains {c0 : Ctx} {g0 : Gh} {w : World} {xa ya xb yb xp yp : Int} (hI0 : RInv c0 g0 w) (sxa : S xa) (sya : S ya) (sxb : S xb) (syb : S yb) (sxp : S xp) (syp : S yp) :
    Calls Tryd.prog 14 #[.agg #[.int .i64 xa, .int .i64 ya], .agg #[.int .i64 xb, .int .i64 yb], .agg #[.int .i64 xp, .int .i64 yp]] w (Gives (fun v _ _ => v = .bool (contB xa ya xb yb xp yp)) g0 w) := by
  rcases h0 : decide (det xa ya xb yb xp yp = 0) with _ | _
  · rw [show contB xa ya xb yb xp yp = false by unfold contB; rw [h0]; rfl]; exact gRef8ContF hI0 sxa sya sxb syb sxp syp h0
  · rcases h1 : withB xa xb xp with _ | _
    · rw [show contB xa ya xb yb xp yp = false by unfold contB; rw [h0, h1]; rfl]; exact gRef8ContTF hI0 sxa sya sxb syb sxp syp h0 h1
    · rcases h2 : withB ya yb yp with _ | _
      · rw [show contB xa ya xb yb xp yp = false by unfold contB; rw [h0, h1, h2]; rfl]; exact gRef8ContTTF hI0 sxa sya sxb syb sxp syp h0 h1 h2
      · rw [show contB xa ya xb yb xp yp = true by unfold contB; rw [h0, h1, h2]; rfl]; exact gRef8ContTTT hI0 sxa sya sxb syb sxp syp h0 h1 h2
set_option maxRecDepth 100000 in
set_option maxHeartbeats 4000000 in
theorem gRef8CrossF {c0 : Ctx} {g0 : Gh} {w : World} {xa ya xb yb xc yc xd yd : Int} (hI0 : RInv c0 g0 w) (sxa : S xa) (sya : S ya) (sxb : S xb) (syb : S yb) (sxc : S xc) (syc : S yc) (sxd : S xd) (syd : S yd) (h0 : oppB xa ya xb yb xc yc xd yd = false) :
    Calls Tryd.prog 16 #[.agg #[.int .i64 xa, .int .i64 ya], .agg #[.int .i64 xb, .int .i64 yb], .agg #[.int .i64 xc, .int .i64 yc], .agg #[.int .i64 xd, .int .i64 yd]] w (Gives (fun v _ _ => v = .bool false) g0 w) := by
  have H0 := Lib.hid h0
  clear h0
  obtain ⟨W, hW⟩ : ∃ W, W = (((w.alloc (.cells #[.int .i64 xa, .int .i64 ya] 28)).alloc (.cells #[.int .i64 xb, .int .i64 yb] 28)).alloc (.cells #[.int .i64 xc, .int .i64 yc] 28)).alloc (.cells #[.int .i64 xd, .int .i64 yd] 28) := ⟨_, rfl⟩
  have hb0 : Below w.heap.size w W := by rw [hW]; exact (((((Below.refl _ _).alloc (Nat.le_refl _) _).alloc (by simp) _).alloc (by simp; omega) _).alloc (by simp; omega) _)
  have HOK := Ctx.ok_lift0 hI0 hb0
  have C0_W_0 := Lib.hid (show W.cell? ⟨w.heap.size, 0, none⟩ = some (.int .i64 xa) by rw [hW]; simp [go_sem])
  have C0_W_1 := Lib.hid (show W.cell? ⟨w.heap.size, 1, none⟩ = some (.int .i64 ya) by rw [hW]; simp [go_sem])
  have HO0 : Off (lift0 g0) (w.heap.size) := lift0_off (hI0.offs _ (by omega))
  have C1_W_0 := Lib.hid (show W.cell? ⟨w.heap.size + 1, 0, none⟩ = some (.int .i64 xb) by rw [hW]; simp [go_sem])
  have C1_W_1 := Lib.hid (show W.cell? ⟨w.heap.size + 1, 1, none⟩ = some (.int .i64 yb) by rw [hW]; simp [go_sem])
  have HO1 : Off (lift0 g0) (w.heap.size + 1) := lift0_off (hI0.offs _ (by omega))
  have C2_W_0 := Lib.hid (show W.cell? ⟨w.heap.size + 1 + 1, 0, none⟩ = some (.int .i64 xc) by rw [hW]; simp [go_sem])
  have C2_W_1 := Lib.hid (show W.cell? ⟨w.heap.size + 1 + 1, 1, none⟩ = some (.int .i64 yc) by rw [hW]; simp [go_sem])
  have HO2 : Off (lift0 g0) (w.heap.size + 1 + 1) := lift0_off (hI0.offs _ (by omega))
  have C3_W_0 := Lib.hid (show W.cell? ⟨w.heap.size + 1 + 1 + 1, 0, none⟩ = some (.int .i64 xd) by rw [hW]; simp [go_sem])
  have C3_W_1 := Lib.hid (show W.cell? ⟨w.heap.size + 1 + 1 + 1, 1, none⟩ = some (.int .i64 yd) by rw [hW]; simp [go_sem])
  have HO3 : Off (lift0 g0) (w.heap.size + 1 + 1 + 1) := lift0_off (hI0.offs _ (by omega))
  have HW := Lib.hid hW
  clear hW
  go_enter Tryd.func16, Tryd.ntmps16
  go_upto_region 1 with (fail)
  rw [← HW.out]
  refine box_plan (c := ⟨w, W, (lift0 g0)⟩) HOK (by kernel_rfl) [[], [], [], [(9, 0), (10, 1), (11, 2)], [], [], [], [(13, 4), (14, 5), (15, 6)], [(12, 3), (16, 7)], [(17, 8)], [(18, 9)], [(19, 10)], [(19, 10)], [(19, 10)], [(19, 10), (20, 11), (21, 12), (22, 13)], [(19, 10)], [(19, 10)], [(19, 10)], [(19, 10), (24, 15), (25, 16), (26, 17)], [(19, 10), (23, 14), (27, 18)], [(19, 10), (28, 19)], [(19, 10), (29, 20)], [(30, 21)]] [(9, 0), (10, 1), (11, 2), (12, 3), (13, 4), (14, 5), (15, 6), (16, 7), (17, 8), (18, 9), (19, 10), (20, 11), (21, 12), (22, 13), (23, 14), (24, 15), (25, 16), (26, 17), (27, 18), (28, 19), (29, 20), (30, 21), (8, 22)] [
      (fun v _ _ => v = .agg #[.int .i64 xa, .int .i64 ya]),
      (fun v _ _ => v = .agg #[.int .i64 xb, .int .i64 yb]),
      (fun v _ _ => v = .agg #[.int .i64 xc, .int .i64 yc]),
      SignR (det xa ya xb yb xc yc),
      (fun v _ _ => v = .agg #[.int .i64 xa, .int .i64 ya]),
      (fun v _ _ => v = .agg #[.int .i64 xb, .int .i64 yb]),
      (fun v _ _ => v = .agg #[.int .i64 xd, .int .i64 yd]),
      SignR (det xa ya xb yb xd yd),
      SignR ((det xa ya xb yb xc yc) * (det xa ya xb yb xd yd)),
      (fun v _ _ => v = .bool false),
      (fun v _ _ => v = .bool false),
      (fun v _ _ => v = undef),
      (fun v _ _ => v = undef),
      (fun v _ _ => v = undef),
      (fun v _ _ => v = undef),
      (fun v _ _ => v = undef),
      (fun v _ _ => v = undef),
      (fun v _ _ => v = undef),
      (fun v _ _ => v = undef),
      (fun v _ _ => v = undef),
      (fun v _ _ => v = undef),
      (fun v _ _ => v = .bool false),
      (fun v _ _ => v = .bool false)
    ] (fun _ => none) (by kernel_rfl) (by kernel_rfl) ⟨stab_eq, stab_eq, stab_eq, stab_firm (signR_firm _), stab_eq, stab_eq, stab_eq, stab_firm (signR_firm _), stab_firm (signR_firm _), stab_eq, stab_eq, stab_eq, stab_eq, stab_eq, stab_eq, stab_eq, stab_eq, stab_eq, stab_eq, stab_eq, stab_eq, stab_eq, stab_eq, trivial⟩ ?steps ?fin
  case steps =>
    refine ⟨?_, ?_, ?_, ?_, ?_, ?_, ?_, ?_, ?_, ?_, ?_, ?_, ?_, ?_, ?_, ?_, ?_, ?_, ?_, ?_, ?_, ?_, ?_, trivial⟩
    · intro vs g w2 hI hF hR K hK
      simp only [Facts, fill, Act.put, z1, z2, z3, z4, z5, Nat.reduceAdd] at hF hR hK ⊢
      have k0 := hI.cell C0_W_0.out (by first | exact HO0 | exact HO1 | exact HO2 | exact HO3 | assumption)
      have k1 := hI.cell C0_W_1.out (by first | exact HO0 | exact HO1 | exact HO2 | exact HO3 | assumption)
      go_simp
      exact hK _ _ _ hI (Step.refl hI) rfl
    · intro vs g w2 hI hF hR K hK
      simp only [Facts, fill, Act.put, z1, z2, z3, z4, z5, Nat.reduceAdd] at hF hR hK ⊢
      have k0 := hI.cell C1_W_0.out (by first | exact HO0 | exact HO1 | exact HO2 | exact HO3 | assumption)
      have k1 := hI.cell C1_W_1.out (by first | exact HO0 | exact HO1 | exact HO2 | exact HO3 | assumption)
      go_simp
      exact hK _ _ _ hI (Step.refl hI) rfl
    · intro vs g w2 hI hF hR K hK
      simp only [Facts, fill, Act.put, z1, z2, z3, z4, z5, Nat.reduceAdd] at hF hR hK ⊢
      have k0 := hI.cell C2_W_0.out (by first | exact HO0 | exact HO1 | exact HO2 | exact HO3 | assumption)
      have k1 := hI.cell C2_W_1.out (by first | exact HO0 | exact HO1 | exact HO2 | exact HO3 | assumption)
      go_simp
      exact hK _ _ _ hI (Step.refl hI) rfl
    · intro vs g w2 hI hF hR K hK
      simp only [Facts, fill, Act.put, z1, z2, z3, z4, z5, Nat.reduceAdd] at hF hR hK ⊢
      obtain ⟨r0, r1, r2, -⟩ := hR
      generalize vs 0 = x0, vs 1 = x1, vs 2 = x2 at *
      subst r0 r1 r2
      go_simp
      refine (gRef6Sign hI (by first | assumption | (unfold S; decide)) (by first | assumption | (unfold S; decide)) (by first | assumption | (unfold S; decide)) (by first | assumption | (unfold S; decide)) (by first | assumption | (unfold S; decide)) (by first | assumption | (unfold S; decide))).mono ?_
      rintro e w3 ⟨v3, rfl, hv, hb⟩
      exact hK _ _ _ (hI.call hb) (Step.call hI hb) hv
    · intro vs g w2 hI hF hR K hK
      simp only [Facts, fill, Act.put, z1, z2, z3, z4, z5, Nat.reduceAdd] at hF hR hK ⊢
      have k0 := hI.cell C0_W_0.out (by first | exact HO0 | exact HO1 | exact HO2 | exact HO3 | assumption)
      have k1 := hI.cell C0_W_1.out (by first | exact HO0 | exact HO1 | exact HO2 | exact HO3 | assumption)
      go_simp
      exact hK _ _ _ hI (Step.refl hI) rfl
    · intro vs g w2 hI hF hR K hK
      simp only [Facts, fill, Act.put, z1, z2, z3, z4, z5, Nat.reduceAdd] at hF hR hK ⊢
      have k0 := hI.cell C1_W_0.out (by first | exact HO0 | exact HO1 | exact HO2 | exact HO3 | assumption)
      have k1 := hI.cell C1_W_1.out (by first | exact HO0 | exact HO1 | exact HO2 | exact HO3 | assumption)
      go_simp
      exact hK _ _ _ hI (Step.refl hI) rfl
    · intro vs g w2 hI hF hR K hK
      simp only [Facts, fill, Act.put, z1, z2, z3, z4, z5, Nat.reduceAdd] at hF hR hK ⊢
      have k0 := hI.cell C3_W_0.out (by first | exact HO0 | exact HO1 | exact HO2 | exact HO3 | assumption)
      have k1 := hI.cell C3_W_1.out (by first | exact HO0 | exact HO1 | exact HO2 | exact HO3 | assumption)
      go_simp
      exact hK _ _ _ hI (Step.refl hI) rfl
    · intro vs g w2 hI hF hR K hK
      simp only [Facts, fill, Act.put, z1, z2, z3, z4, z5, Nat.reduceAdd] at hF hR hK ⊢
      obtain ⟨r4, r5, r6, -⟩ := hR
      generalize vs 4 = x4, vs 5 = x5, vs 6 = x6 at *
      subst r4 r5 r6
      go_simp
      refine (gRef6Sign hI (by first | assumption | (unfold S; decide)) (by first | assumption | (unfold S; decide)) (by first | assumption | (unfold S; decide)) (by first | assumption | (unfold S; decide)) (by first | assumption | (unfold S; decide)) (by first | assumption | (unfold S; decide))).mono ?_
      rintro e w3 ⟨v3, rfl, hv, hb⟩
      exact hK _ _ _ (hI.call hb) (Step.call hI hb) hv
    · intro vs g w2 hI hF hR K hK
      simp only [Facts, fill, Act.put, z1, z2, z3, z4, z5, Nat.reduceAdd] at hF hR hK ⊢
      obtain ⟨r3, r7, -⟩ := hR
      generalize vs 3 = x3, vs 7 = x7 at *
      have q3 := r3
      obtain ⟨s3, rfl, -⟩ := r3
      have q7 := r7
      obtain ⟨s7, rfl, -⟩ := r7
      obtain ⟨he, hn⟩ := signR_mul q3 q7
      clear q3
      clear q7
      go_simp
      exact hK _ _ _ hI (Step.refl hI) hn
    · intro vs g w2 hI hF hR K hK
      simp only [Facts, fill, Act.put, z1, z2, z3, z4, z5, Nat.reduceAdd] at hF hR hK ⊢
      obtain ⟨r8, -⟩ := hR
      generalize vs 8 = x8 at *
      have q := r8
      obtain ⟨s0, rfl, -⟩ := r8
      have hz : decide (s0 < 0) = false := sgn_lt q H0.out
      clear q
      go_simp
      exact hK _ _ _ hI (Step.refl hI) rfl
    · intro vs g w2 hI hF hR K hK
      simp only [Facts, fill, Act.put, z1, z2, z3, z4, z5, Nat.reduceAdd] at hF hR hK ⊢
      obtain ⟨r9, -⟩ := hR
      generalize vs 9 = x9 at *
      subst r9
      go_simp
      exact hK _ _ _ hI (Step.refl hI) rfl
    · intro vs g w2 hI hF hR K hK
      simp only [Facts, fill, Act.put, z1, z2, z3, z4, z5, Nat.reduceAdd] at hF hR hK ⊢
      obtain ⟨r10, -⟩ := hR
      generalize vs 10 = x10 at *
      subst r10
      go_simp
      exact hK _ _ _ hI (Step.refl hI) rfl
    · intro vs g w2 hI hF hR K hK
      simp only [Facts, fill, Act.put, z1, z2, z3, z4, z5, Nat.reduceAdd] at hF hR hK ⊢
      obtain ⟨r10, -⟩ := hR
      generalize vs 10 = x10 at *
      subst r10
      go_simp
      exact hK _ _ _ hI (Step.refl hI) rfl
    · intro vs g w2 hI hF hR K hK
      simp only [Facts, fill, Act.put, z1, z2, z3, z4, z5, Nat.reduceAdd] at hF hR hK ⊢
      obtain ⟨r10, -⟩ := hR
      generalize vs 10 = x10 at *
      subst r10
      go_simp
      exact hK _ _ _ hI (Step.refl hI) rfl
    · intro vs g w2 hI hF hR K hK
      simp only [Facts, fill, Act.put, z1, z2, z3, z4, z5, Nat.reduceAdd] at hF hR hK ⊢
      obtain ⟨r10, r11, r12, r13, -⟩ := hR
      generalize vs 10 = x10, vs 11 = x11, vs 12 = x12, vs 13 = x13 at *
      subst r10 r11 r12 r13
      go_simp
      exact hK _ _ _ hI (Step.refl hI) rfl
    · intro vs g w2 hI hF hR K hK
      simp only [Facts, fill, Act.put, z1, z2, z3, z4, z5, Nat.reduceAdd] at hF hR hK ⊢
      obtain ⟨r10, -⟩ := hR
      generalize vs 10 = x10 at *
      subst r10
      go_simp
      exact hK _ _ _ hI (Step.refl hI) rfl
    · intro vs g w2 hI hF hR K hK
      simp only [Facts, fill, Act.put, z1, z2, z3, z4, z5, Nat.reduceAdd] at hF hR hK ⊢
      obtain ⟨r10, -⟩ := hR
      generalize vs 10 = x10 at *
      subst r10
      go_simp
      exact hK _ _ _ hI (Step.refl hI) rfl
    · intro vs g w2 hI hF hR K hK
      simp only [Facts, fill, Act.put, z1, z2, z3, z4, z5, Nat.reduceAdd] at hF hR hK ⊢
      obtain ⟨r10, -⟩ := hR
      generalize vs 10 = x10 at *
      subst r10
      go_simp
      exact hK _ _ _ hI (Step.refl hI) rfl
    · intro vs g w2 hI hF hR K hK
      simp only [Facts, fill, Act.put, z1, z2, z3, z4, z5, Nat.reduceAdd] at hF hR hK ⊢
      obtain ⟨r10, r15, r16, r17, -⟩ := hR
      generalize vs 10 = x10, vs 15 = x15, vs 16 = x16, vs 17 = x17 at *
      subst r10 r15 r16 r17
      go_simp
      exact hK _ _ _ hI (Step.refl hI) rfl
    · intro vs g w2 hI hF hR K hK
      simp only [Facts, fill, Act.put, z1, z2, z3, z4, z5, Nat.reduceAdd] at hF hR hK ⊢
      obtain ⟨r10, r14, r18, -⟩ := hR
      generalize vs 10 = x10, vs 14 = x14, vs 18 = x18 at *
      subst r10 r14 r18
      go_simp
      exact hK _ _ _ hI (Step.refl hI) rfl
    · intro vs g w2 hI hF hR K hK
      simp only [Facts, fill, Act.put, z1, z2, z3, z4, z5, Nat.reduceAdd] at hF hR hK ⊢
      obtain ⟨r10, r19, -⟩ := hR
      generalize vs 10 = x10, vs 19 = x19 at *
      subst r10 r19
      go_simp
      exact hK _ _ _ hI (Step.refl hI) rfl
    · intro vs g w2 hI hF hR K hK
      simp only [Facts, fill, Act.put, z1, z2, z3, z4, z5, Nat.reduceAdd] at hF hR hK ⊢
      obtain ⟨r10, r20, -⟩ := hR
      generalize vs 10 = x10, vs 20 = x20 at *
      subst r10 r20
      go_simp
      exact hK _ _ _ hI (Step.refl hI) rfl
    · intro vs g w2 hI hF hR K hK
      simp only [Facts, fill, Act.put, z1, z2, z3, z4, z5, Nat.reduceAdd] at hF hR hK ⊢
      obtain ⟨r21, -⟩ := hR
      generalize vs 21 = x21 at *
      subst r21
      go_simp
      exact hK _ _ _ hI (Step.refl hI) rfl
  case fin =>
    intro vs g wR1 hI hR
    have r22 := hR 22 (by decide)
    simp only [fill, Act.put, z1, z2, z3, z4, z5] at r22 ⊢
    clear hR
    generalize vs 22 = x22 at *
    have C0_R1_0 := Lib.hid (hI.cell C0_W_0.out (by first | exact HO0 | exact HO1 | exact HO2 | exact HO3 | assumption))
    have C0_R1_1 := Lib.hid (hI.cell C0_W_1.out (by first | exact HO0 | exact HO1 | exact HO2 | exact HO3 | assumption))
    have C1_R1_0 := Lib.hid (hI.cell C1_W_0.out (by first | exact HO0 | exact HO1 | exact HO2 | exact HO3 | assumption))
    have C1_R1_1 := Lib.hid (hI.cell C1_W_1.out (by first | exact HO0 | exact HO1 | exact HO2 | exact HO3 | assumption))
    have C2_R1_0 := Lib.hid (hI.cell C2_W_0.out (by first | exact HO0 | exact HO1 | exact HO2 | exact HO3 | assumption))
    have C2_R1_1 := Lib.hid (hI.cell C2_W_1.out (by first | exact HO0 | exact HO1 | exact HO2 | exact HO3 | assumption))
    have C3_R1_0 := Lib.hid (hI.cell C3_W_0.out (by first | exact HO0 | exact HO1 | exact HO2 | exact HO3 | assumption))
    have C3_R1_1 := Lib.hid (hI.cell C3_W_1.out (by first | exact HO0 | exact HO1 | exact HO2 | exact HO3 | assumption))
    subst r22
    have hBR1 := hI.below
    have HCR1 := hI.next HOK
    clear hI
    go_wp2
    go_ret
    exact ⟨_, rfl, rfl, hBR1⟩
set_option maxRecDepth 100000 in
set_option maxHeartbeats 4000000 in
theorem gRef8CrossTF {c0 : Ctx} {g0 : Gh} {w : World} {xa ya xb yb xc yc xd yd : Int} (hI0 : RInv c0 g0 w) (sxa : S xa) (sya : S ya) (sxb : S xb) (syb : S yb) (sxc : S xc) (syc : S yc) (sxd : S xd) (syd : S yd) (h0 : oppB xa ya xb yb xc yc xd yd = true) (h1 : oppB xc yc xd yd xa ya xb yb = false) :
    Calls Tryd.prog 16 #[.agg #[.int .i64 xa, .int .i64 ya], .agg #[.int .i64 xb, .int .i64 yb], .agg #[.int .i64 xc, .int .i64 yc], .agg #[.int .i64 xd, .int .i64 yd]] w (Gives (fun v _ _ => v = .bool false) g0 w) := by
  have H0 := Lib.hid h0
  have H1 := Lib.hid h1
  clear h0 h1
  obtain ⟨W, hW⟩ : ∃ W, W = (((w.alloc (.cells #[.int .i64 xa, .int .i64 ya] 28)).alloc (.cells #[.int .i64 xb, .int .i64 yb] 28)).alloc (.cells #[.int .i64 xc, .int .i64 yc] 28)).alloc (.cells #[.int .i64 xd, .int .i64 yd] 28) := ⟨_, rfl⟩
  have hb0 : Below w.heap.size w W := by rw [hW]; exact (((((Below.refl _ _).alloc (Nat.le_refl _) _).alloc (by simp) _).alloc (by simp; omega) _).alloc (by simp; omega) _)
  have HOK := Ctx.ok_lift0 hI0 hb0
  have C0_W_0 := Lib.hid (show W.cell? ⟨w.heap.size, 0, none⟩ = some (.int .i64 xa) by rw [hW]; simp [go_sem])
  have C0_W_1 := Lib.hid (show W.cell? ⟨w.heap.size, 1, none⟩ = some (.int .i64 ya) by rw [hW]; simp [go_sem])
  have HO0 : Off (lift0 g0) (w.heap.size) := lift0_off (hI0.offs _ (by omega))
  have C1_W_0 := Lib.hid (show W.cell? ⟨w.heap.size + 1, 0, none⟩ = some (.int .i64 xb) by rw [hW]; simp [go_sem])
  have C1_W_1 := Lib.hid (show W.cell? ⟨w.heap.size + 1, 1, none⟩ = some (.int .i64 yb) by rw [hW]; simp [go_sem])
  have HO1 : Off (lift0 g0) (w.heap.size + 1) := lift0_off (hI0.offs _ (by omega))
  have C2_W_0 := Lib.hid (show W.cell? ⟨w.heap.size + 1 + 1, 0, none⟩ = some (.int .i64 xc) by rw [hW]; simp [go_sem])
  have C2_W_1 := Lib.hid (show W.cell? ⟨w.heap.size + 1 + 1, 1, none⟩ = some (.int .i64 yc) by rw [hW]; simp [go_sem])
  have HO2 : Off (lift0 g0) (w.heap.size + 1 + 1) := lift0_off (hI0.offs _ (by omega))
  have C3_W_0 := Lib.hid (show W.cell? ⟨w.heap.size + 1 + 1 + 1, 0, none⟩ = some (.int .i64 xd) by rw [hW]; simp [go_sem])
  have C3_W_1 := Lib.hid (show W.cell? ⟨w.heap.size + 1 + 1 + 1, 1, none⟩ = some (.int .i64 yd) by rw [hW]; simp [go_sem])
  have HO3 : Off (lift0 g0) (w.heap.size + 1 + 1 + 1) := lift0_off (hI0.offs _ (by omega))
  have HW := Lib.hid hW
  clear hW
  go_enter Tryd.func16, Tryd.ntmps16
  go_upto_region 1 with (fail)
  rw [← HW.out]
  refine box_plan (c := ⟨w, W, (lift0 g0)⟩) HOK (by kernel_rfl) [[], [], [], [(9, 0), (10, 1), (11, 2)], [], [], [], [(13, 4), (14, 5), (15, 6)], [(12, 3), (16, 7)], [(17, 8)], [(18, 9)], [(19, 10)], [(19, 10)], [(19, 10)], [(19, 10), (20, 11), (21, 12), (22, 13)], [(19, 10)], [(19, 10)], [(19, 10)], [(19, 10), (24, 15), (25, 16), (26, 17)], [(19, 10), (23, 14), (27, 18)], [(19, 10), (28, 19)], [(19, 10), (29, 20)], [(30, 21)]] [(9, 0), (10, 1), (11, 2), (12, 3), (13, 4), (14, 5), (15, 6), (16, 7), (17, 8), (18, 9), (19, 10), (20, 11), (21, 12), (22, 13), (23, 14), (24, 15), (25, 16), (26, 17), (27, 18), (28, 19), (29, 20), (30, 21), (8, 22)] [
      (fun v _ _ => v = .agg #[.int .i64 xa, .int .i64 ya]),
      (fun v _ _ => v = .agg #[.int .i64 xb, .int .i64 yb]),
      (fun v _ _ => v = .agg #[.int .i64 xc, .int .i64 yc]),
      SignR (det xa ya xb yb xc yc),
      (fun v _ _ => v = .agg #[.int .i64 xa, .int .i64 ya]),
      (fun v _ _ => v = .agg #[.int .i64 xb, .int .i64 yb]),
      (fun v _ _ => v = .agg #[.int .i64 xd, .int .i64 yd]),
      SignR (det xa ya xb yb xd yd),
      SignR ((det xa ya xb yb xc yc) * (det xa ya xb yb xd yd)),
      (fun v _ _ => v = .bool true),
      (fun v _ _ => v = .bool true),
      (fun v _ _ => v = .agg #[.int .i64 xc, .int .i64 yc]),
      (fun v _ _ => v = .agg #[.int .i64 xd, .int .i64 yd]),
      (fun v _ _ => v = .agg #[.int .i64 xa, .int .i64 ya]),
      SignR (det xc yc xd yd xa ya),
      (fun v _ _ => v = .agg #[.int .i64 xc, .int .i64 yc]),
      (fun v _ _ => v = .agg #[.int .i64 xd, .int .i64 yd]),
      (fun v _ _ => v = .agg #[.int .i64 xb, .int .i64 yb]),
      SignR (det xc yc xd yd xb yb),
      SignR ((det xc yc xd yd xa ya) * (det xc yc xd yd xb yb)),
      (fun v _ _ => v = .bool false),
      (fun v _ _ => v = .bool false),
      (fun v _ _ => v = .bool false)
    ] (fun _ => none) (by kernel_rfl) (by kernel_rfl) ⟨stab_eq, stab_eq, stab_eq, stab_firm (signR_firm _), stab_eq, stab_eq, stab_eq, stab_firm (signR_firm _), stab_firm (signR_firm _), stab_eq, stab_eq, stab_eq, stab_eq, stab_eq, stab_firm (signR_firm _), stab_eq, stab_eq, stab_eq, stab_firm (signR_firm _), stab_firm (signR_firm _), stab_eq, stab_eq, stab_eq, trivial⟩ ?steps ?fin
  case steps =>
    refine ⟨?_, ?_, ?_, ?_, ?_, ?_, ?_, ?_, ?_, ?_, ?_, ?_, ?_, ?_, ?_, ?_, ?_, ?_, ?_, ?_, ?_, ?_, ?_, trivial⟩
    · intro vs g w2 hI hF hR K hK
      simp only [Facts, fill, Act.put, z1, z2, z3, z4, z5, Nat.reduceAdd] at hF hR hK ⊢
      have k0 := hI.cell C0_W_0.out (by first | exact HO0 | exact HO1 | exact HO2 | exact HO3 | assumption)
      have k1 := hI.cell C0_W_1.out (by first | exact HO0 | exact HO1 | exact HO2 | exact HO3 | assumption)
      go_simp
      exact hK _ _ _ hI (Step.refl hI) rfl
    · intro vs g w2 hI hF hR K hK
      simp only [Facts, fill, Act.put, z1, z2, z3, z4, z5, Nat.reduceAdd] at hF hR hK ⊢
      have k0 := hI.cell C1_W_0.out (by first | exact HO0 | exact HO1 | exact HO2 | exact HO3 | assumption)
      have k1 := hI.cell C1_W_1.out (by first | exact HO0 | exact HO1 | exact HO2 | exact HO3 | assumption)
      go_simp
      exact hK _ _ _ hI (Step.refl hI) rfl
    · intro vs g w2 hI hF hR K hK
      simp only [Facts, fill, Act.put, z1, z2, z3, z4, z5, Nat.reduceAdd] at hF hR hK ⊢
      have k0 := hI.cell C2_W_0.out (by first | exact HO0 | exact HO1 | exact HO2 | exact HO3 | assumption)
      have k1 := hI.cell C2_W_1.out (by first | exact HO0 | exact HO1 | exact HO2 | exact HO3 | assumption)
      go_simp
      exact hK _ _ _ hI (Step.refl hI) rfl
    · intro vs g w2 hI hF hR K hK
      simp only [Facts, fill, Act.put, z1, z2, z3, z4, z5, Nat.reduceAdd] at hF hR hK ⊢
      obtain ⟨r0, r1, r2, -⟩ := hR
      generalize vs 0 = x0, vs 1 = x1, vs 2 = x2 at *
      subst r0 r1 r2
      go_simp
      refine (gRef6Sign hI (by first | assumption | (unfold S; decide)) (by first | assumption | (unfold S; decide)) (by first | assumption | (unfold S; decide)) (by first | assumption | (unfold S; decide)) (by first | assumption | (unfold S; decide)) (by first | assumption | (unfold S; decide))).mono ?_
      rintro e w3 ⟨v3, rfl, hv, hb⟩
      exact hK _ _ _ (hI.call hb) (Step.call hI hb) hv
    · intro vs g w2 hI hF hR K hK
      simp only [Facts, fill, Act.put, z1, z2, z3, z4, z5, Nat.reduceAdd] at hF hR hK ⊢
      have k0 := hI.cell C0_W_0.out (by first | exact HO0 | exact HO1 | exact HO2 | exact HO3 | assumption)
      have k1 := hI.cell C0_W_1.out (by first | exact HO0 | exact HO1 | exact HO2 | exact HO3 | assumption)
      go_simp
      exact hK _ _ _ hI (Step.refl hI) rfl
    · intro vs g w2 hI hF hR K hK
      simp only [Facts, fill, Act.put, z1, z2, z3, z4, z5, Nat.reduceAdd] at hF hR hK ⊢
      have k0 := hI.cell C1_W_0.out (by first | exact HO0 | exact HO1 | exact HO2 | exact HO3 | assumption)
      have k1 := hI.cell C1_W_1.out (by first | exact HO0 | exact HO1 | exact HO2 | exact HO3 | assumption)
      go_simp
      exact hK _ _ _ hI (Step.refl hI) rfl
    · intro vs g w2 hI hF hR K hK
      simp only [Facts, fill, Act.put, z1, z2, z3, z4, z5, Nat.reduceAdd] at hF hR hK ⊢
      have k0 := hI.cell C3_W_0.out (by first | exact HO0 | exact HO1 | exact HO2 | exact HO3 | assumption)
      have k1 := hI.cell C3_W_1.out (by first | exact HO0 | exact HO1 | exact HO2 | exact HO3 | assumption)
      go_simp
      exact hK _ _ _ hI (Step.refl hI) rfl
    · intro vs g w2 hI hF hR K hK
      simp only [Facts, fill, Act.put, z1, z2, z3, z4, z5, Nat.reduceAdd] at hF hR hK ⊢
      obtain ⟨r4, r5, r6, -⟩ := hR
      generalize vs 4 = x4, vs 5 = x5, vs 6 = x6 at *
      subst r4 r5 r6
      go_simp
      refine (gRef6Sign hI (by first | assumption | (unfold S; decide)) (by first | assumption | (unfold S; decide)) (by first | assumption | (unfold S; decide)) (by first | assumption | (unfold S; decide)) (by first | assumption | (unfold S; decide)) (by first | assumption | (unfold S; decide))).mono ?_
      rintro e w3 ⟨v3, rfl, hv, hb⟩
      exact hK _ _ _ (hI.call hb) (Step.call hI hb) hv
    · intro vs g w2 hI hF hR K hK
      simp only [Facts, fill, Act.put, z1, z2, z3, z4, z5, Nat.reduceAdd] at hF hR hK ⊢
      obtain ⟨r3, r7, -⟩ := hR
      generalize vs 3 = x3, vs 7 = x7 at *
      have q3 := r3
      obtain ⟨s3, rfl, -⟩ := r3
      have q7 := r7
      obtain ⟨s7, rfl, -⟩ := r7
      obtain ⟨he, hn⟩ := signR_mul q3 q7
      clear q3
      clear q7
      go_simp
      exact hK _ _ _ hI (Step.refl hI) hn
    · intro vs g w2 hI hF hR K hK
      simp only [Facts, fill, Act.put, z1, z2, z3, z4, z5, Nat.reduceAdd] at hF hR hK ⊢
      obtain ⟨r8, -⟩ := hR
      generalize vs 8 = x8 at *
      have q := r8
      obtain ⟨s0, rfl, -⟩ := r8
      have hz : decide (s0 < 0) = true := sgn_lt q H0.out
      clear q
      go_simp
      exact hK _ _ _ hI (Step.refl hI) rfl
    · intro vs g w2 hI hF hR K hK
      simp only [Facts, fill, Act.put, z1, z2, z3, z4, z5, Nat.reduceAdd] at hF hR hK ⊢
      obtain ⟨r9, -⟩ := hR
      generalize vs 9 = x9 at *
      subst r9
      go_simp
      exact hK _ _ _ hI (Step.refl hI) rfl
    · intro vs g w2 hI hF hR K hK
      simp only [Facts, fill, Act.put, z1, z2, z3, z4, z5, Nat.reduceAdd] at hF hR hK ⊢
      obtain ⟨r10, -⟩ := hR
      generalize vs 10 = x10 at *
      subst r10
      have k0 := hI.cell C2_W_0.out (by first | exact HO0 | exact HO1 | exact HO2 | exact HO3 | assumption)
      have k1 := hI.cell C2_W_1.out (by first | exact HO0 | exact HO1 | exact HO2 | exact HO3 | assumption)
      go_simp
      exact hK _ _ _ hI (Step.refl hI) rfl
    · intro vs g w2 hI hF hR K hK
      simp only [Facts, fill, Act.put, z1, z2, z3, z4, z5, Nat.reduceAdd] at hF hR hK ⊢
      obtain ⟨r10, -⟩ := hR
      generalize vs 10 = x10 at *
      subst r10
      have k0 := hI.cell C3_W_0.out (by first | exact HO0 | exact HO1 | exact HO2 | exact HO3 | assumption)
      have k1 := hI.cell C3_W_1.out (by first | exact HO0 | exact HO1 | exact HO2 | exact HO3 | assumption)
      go_simp
      exact hK _ _ _ hI (Step.refl hI) rfl
    · intro vs g w2 hI hF hR K hK
      simp only [Facts, fill, Act.put, z1, z2, z3, z4, z5, Nat.reduceAdd] at hF hR hK ⊢
      obtain ⟨r10, -⟩ := hR
      generalize vs 10 = x10 at *
      subst r10
      have k0 := hI.cell C0_W_0.out (by first | exact HO0 | exact HO1 | exact HO2 | exact HO3 | assumption)
      have k1 := hI.cell C0_W_1.out (by first | exact HO0 | exact HO1 | exact HO2 | exact HO3 | assumption)
      go_simp
      exact hK _ _ _ hI (Step.refl hI) rfl
    · intro vs g w2 hI hF hR K hK
      simp only [Facts, fill, Act.put, z1, z2, z3, z4, z5, Nat.reduceAdd] at hF hR hK ⊢
      obtain ⟨r10, r11, r12, r13, -⟩ := hR
      generalize vs 10 = x10, vs 11 = x11, vs 12 = x12, vs 13 = x13 at *
      subst r10 r11 r12 r13
      go_simp
      refine (gRef6Sign hI (by first | assumption | (unfold S; decide)) (by first | assumption | (unfold S; decide)) (by first | assumption | (unfold S; decide)) (by first | assumption | (unfold S; decide)) (by first | assumption | (unfold S; decide)) (by first | assumption | (unfold S; decide))).mono ?_
      rintro e w3 ⟨v3, rfl, hv, hb⟩
      exact hK _ _ _ (hI.call hb) (Step.call hI hb) hv
    · intro vs g w2 hI hF hR K hK
      simp only [Facts, fill, Act.put, z1, z2, z3, z4, z5, Nat.reduceAdd] at hF hR hK ⊢
      obtain ⟨r10, -⟩ := hR
      generalize vs 10 = x10 at *
      subst r10
      have k0 := hI.cell C2_W_0.out (by first | exact HO0 | exact HO1 | exact HO2 | exact HO3 | assumption)
      have k1 := hI.cell C2_W_1.out (by first | exact HO0 | exact HO1 | exact HO2 | exact HO3 | assumption)
      go_simp
      exact hK _ _ _ hI (Step.refl hI) rfl
    · intro vs g w2 hI hF hR K hK
      simp only [Facts, fill, Act.put, z1, z2, z3, z4, z5, Nat.reduceAdd] at hF hR hK ⊢
      obtain ⟨r10, -⟩ := hR
      generalize vs 10 = x10 at *
      subst r10
      have k0 := hI.cell C3_W_0.out (by first | exact HO0 | exact HO1 | exact HO2 | exact HO3 | assumption)
      have k1 := hI.cell C3_W_1.out (by first | exact HO0 | exact HO1 | exact HO2 | exact HO3 | assumption)
      go_simp
      exact hK _ _ _ hI (Step.refl hI) rfl
    · intro vs g w2 hI hF hR K hK
      simp only [Facts, fill, Act.put, z1, z2, z3, z4, z5, Nat.reduceAdd] at hF hR hK ⊢
      obtain ⟨r10, -⟩ := hR
      generalize vs 10 = x10 at *
      subst r10
      have k0 := hI.cell C1_W_0.out (by first | exact HO0 | exact HO1 | exact HO2 | exact HO3 | assumption)
      have k1 := hI.cell C1_W_1.out (by first | exact HO0 | exact HO1 | exact HO2 | exact HO3 | assumption)
      go_simp
      exact hK _ _ _ hI (Step.refl hI) rfl
    · intro vs g w2 hI hF hR K hK
      simp only [Facts, fill, Act.put, z1, z2, z3, z4, z5, Nat.reduceAdd] at hF hR hK ⊢
      obtain ⟨r10, r15, r16, r17, -⟩ := hR
      generalize vs 10 = x10, vs 15 = x15, vs 16 = x16, vs 17 = x17 at *
      subst r10 r15 r16 r17
      go_simp
      refine (gRef6Sign hI (by first | assumption | (unfold S; decide)) (by first | assumption | (unfold S; decide)) (by first | assumption | (unfold S; decide)) (by first | assumption | (unfold S; decide)) (by first | assumption | (unfold S; decide)) (by first | assumption | (unfold S; decide))).mono ?_
      rintro e w3 ⟨v3, rfl, hv, hb⟩
      exact hK _ _ _ (hI.call hb) (Step.call hI hb) hv
    · intro vs g w2 hI hF hR K hK
      simp only [Facts, fill, Act.put, z1, z2, z3, z4, z5, Nat.reduceAdd] at hF hR hK ⊢
      obtain ⟨r10, r14, r18, -⟩ := hR
      generalize vs 10 = x10, vs 14 = x14, vs 18 = x18 at *
      subst r10
      have q14 := r14
      obtain ⟨s14, rfl, -⟩ := r14
      have q18 := r18
      obtain ⟨s18, rfl, -⟩ := r18
      obtain ⟨he, hn⟩ := signR_mul q14 q18
      clear q14
      clear q18
      go_simp
      exact hK _ _ _ hI (Step.refl hI) hn
    · intro vs g w2 hI hF hR K hK
      simp only [Facts, fill, Act.put, z1, z2, z3, z4, z5, Nat.reduceAdd] at hF hR hK ⊢
      obtain ⟨r10, r19, -⟩ := hR
      generalize vs 10 = x10, vs 19 = x19 at *
      subst r10
      have q := r19
      obtain ⟨s0, rfl, -⟩ := r19
      have hz : decide (s0 < 0) = false := sgn_lt q H1.out
      clear q
      go_simp
      exact hK _ _ _ hI (Step.refl hI) rfl
    · intro vs g w2 hI hF hR K hK
      simp only [Facts, fill, Act.put, z1, z2, z3, z4, z5, Nat.reduceAdd] at hF hR hK ⊢
      obtain ⟨r10, r20, -⟩ := hR
      generalize vs 10 = x10, vs 20 = x20 at *
      subst r10 r20
      go_simp
      exact hK _ _ _ hI (Step.refl hI) rfl
    · intro vs g w2 hI hF hR K hK
      simp only [Facts, fill, Act.put, z1, z2, z3, z4, z5, Nat.reduceAdd] at hF hR hK ⊢
      obtain ⟨r21, -⟩ := hR
      generalize vs 21 = x21 at *
      subst r21
      go_simp
      exact hK _ _ _ hI (Step.refl hI) rfl
  case fin =>
    intro vs g wR1 hI hR
    have r22 := hR 22 (by decide)
    simp only [fill, Act.put, z1, z2, z3, z4, z5] at r22 ⊢
    clear hR
    generalize vs 22 = x22 at *
    have C0_R1_0 := Lib.hid (hI.cell C0_W_0.out (by first | exact HO0 | exact HO1 | exact HO2 | exact HO3 | assumption))
    have C0_R1_1 := Lib.hid (hI.cell C0_W_1.out (by first | exact HO0 | exact HO1 | exact HO2 | exact HO3 | assumption))
    have C1_R1_0 := Lib.hid (hI.cell C1_W_0.out (by first | exact HO0 | exact HO1 | exact HO2 | exact HO3 | assumption))
    have C1_R1_1 := Lib.hid (hI.cell C1_W_1.out (by first | exact HO0 | exact HO1 | exact HO2 | exact HO3 | assumption))
    have C2_R1_0 := Lib.hid (hI.cell C2_W_0.out (by first | exact HO0 | exact HO1 | exact HO2 | exact HO3 | assumption))
    have C2_R1_1 := Lib.hid (hI.cell C2_W_1.out (by first | exact HO0 | exact HO1 | exact HO2 | exact HO3 | assumption))
    have C3_R1_0 := Lib.hid (hI.cell C3_W_0.out (by first | exact HO0 | exact HO1 | exact HO2 | exact HO3 | assumption))
    have C3_R1_1 := Lib.hid (hI.cell C3_W_1.out (by first | exact HO0 | exact HO1 | exact HO2 | exact HO3 | assumption))
    subst r22
    have hBR1 := hI.below
    have HCR1 := hI.next HOK
    clear hI
    go_wp2
    go_ret
    exact ⟨_, rfl, rfl, hBR1⟩
set_option maxRecDepth 100000 in
set_option maxHeartbeats 4000000 in
theorem gRef8CrossTT {c0 : Ctx} {g0 : Gh} {w : World} {xa ya xb yb xc yc xd yd : Int} (hI0 : RInv c0 g0 w) (sxa : S xa) (sya : S ya) (sxb : S xb) (syb : S yb) (sxc : S xc) (syc : S yc) (sxd : S xd) (syd : S yd) (h0 : oppB xa ya xb yb xc yc xd yd = true) (h1 : oppB xc yc xd yd xa ya xb yb = true) :
    Calls Tryd.prog 16 #[.agg #[.int .i64 xa, .int .i64 ya], .agg #[.int .i64 xb, .int .i64 yb], .agg #[.int .i64 xc, .int .i64 yc], .agg #[.int .i64 xd, .int .i64 yd]] w (Gives (fun v _ _ => v = .bool true) g0 w) := by
  have H0 := Lib.hid h0
  have H1 := Lib.hid h1
  clear h0 h1
  obtain ⟨W, hW⟩ : ∃ W, W = (((w.alloc (.cells #[.int .i64 xa, .int .i64 ya] 28)).alloc (.cells #[.int .i64 xb, .int .i64 yb] 28)).alloc (.cells #[.int .i64 xc, .int .i64 yc] 28)).alloc (.cells #[.int .i64 xd, .int .i64 yd] 28) := ⟨_, rfl⟩
  have hb0 : Below w.heap.size w W := by rw [hW]; exact (((((Below.refl _ _).alloc (Nat.le_refl _) _).alloc (by simp) _).alloc (by simp; omega) _).alloc (by simp; omega) _)
  have HOK := Ctx.ok_lift0 hI0 hb0
  have C0_W_0 := Lib.hid (show W.cell? ⟨w.heap.size, 0, none⟩ = some (.int .i64 xa) by rw [hW]; simp [go_sem])
  have C0_W_1 := Lib.hid (show W.cell? ⟨w.heap.size, 1, none⟩ = some (.int .i64 ya) by rw [hW]; simp [go_sem])
  have HO0 : Off (lift0 g0) (w.heap.size) := lift0_off (hI0.offs _ (by omega))
  have C1_W_0 := Lib.hid (show W.cell? ⟨w.heap.size + 1, 0, none⟩ = some (.int .i64 xb) by rw [hW]; simp [go_sem])
  have C1_W_1 := Lib.hid (show W.cell? ⟨w.heap.size + 1, 1, none⟩ = some (.int .i64 yb) by rw [hW]; simp [go_sem])
  have HO1 : Off (lift0 g0) (w.heap.size + 1) := lift0_off (hI0.offs _ (by omega))
  have C2_W_0 := Lib.hid (show W.cell? ⟨w.heap.size + 1 + 1, 0, none⟩ = some (.int .i64 xc) by rw [hW]; simp [go_sem])
  have C2_W_1 := Lib.hid (show W.cell? ⟨w.heap.size + 1 + 1, 1, none⟩ = some (.int .i64 yc) by rw [hW]; simp [go_sem])
  have HO2 : Off (lift0 g0) (w.heap.size + 1 + 1) := lift0_off (hI0.offs _ (by omega))
  have C3_W_0 := Lib.hid (show W.cell? ⟨w.heap.size + 1 + 1 + 1, 0, none⟩ = some (.int .i64 xd) by rw [hW]; simp [go_sem])
  have C3_W_1 := Lib.hid (show W.cell? ⟨w.heap.size + 1 + 1 + 1, 1, none⟩ = some (.int .i64 yd) by rw [hW]; simp [go_sem])
  have HO3 : Off (lift0 g0) (w.heap.size + 1 + 1 + 1) := lift0_off (hI0.offs _ (by omega))
  have HW := Lib.hid hW
  clear hW
  go_enter Tryd.func16, Tryd.ntmps16
  go_upto_region 1 with (fail)
  rw [← HW.out]
  refine box_plan (c := ⟨w, W, (lift0 g0)⟩) HOK (by kernel_rfl) [[], [], [], [(9, 0), (10, 1), (11, 2)], [], [], [], [(13, 4), (14, 5), (15, 6)], [(12, 3), (16, 7)], [(17, 8)], [(18, 9)], [(19, 10)], [(19, 10)], [(19, 10)], [(19, 10), (20, 11), (21, 12), (22, 13)], [(19, 10)], [(19, 10)], [(19, 10)], [(19, 10), (24, 15), (25, 16), (26, 17)], [(19, 10), (23, 14), (27, 18)], [(19, 10), (28, 19)], [(19, 10), (29, 20)], [(30, 21)]] [(9, 0), (10, 1), (11, 2), (12, 3), (13, 4), (14, 5), (15, 6), (16, 7), (17, 8), (18, 9), (19, 10), (20, 11), (21, 12), (22, 13), (23, 14), (24, 15), (25, 16), (26, 17), (27, 18), (28, 19), (29, 20), (30, 21), (8, 22)] [
      (fun v _ _ => v = .agg #[.int .i64 xa, .int .i64 ya]),
      (fun v _ _ => v = .agg #[.int .i64 xb, .int .i64 yb]),
      (fun v _ _ => v = .agg #[.int .i64 xc, .int .i64 yc]),
      SignR (det xa ya xb yb xc yc),
      (fun v _ _ => v = .agg #[.int .i64 xa, .int .i64 ya]),
      (fun v _ _ => v = .agg #[.int .i64 xb, .int .i64 yb]),
      (fun v _ _ => v = .agg #[.int .i64 xd, .int .i64 yd]),
      SignR (det xa ya xb yb xd yd),
      SignR ((det xa ya xb yb xc yc) * (det xa ya xb yb xd yd)),
      (fun v _ _ => v = .bool true),
      (fun v _ _ => v = .bool true),
      (fun v _ _ => v = .agg #[.int .i64 xc, .int .i64 yc]),
      (fun v _ _ => v = .agg #[.int .i64 xd, .int .i64 yd]),
      (fun v _ _ => v = .agg #[.int .i64 xa, .int .i64 ya]),
      SignR (det xc yc xd yd xa ya),
      (fun v _ _ => v = .agg #[.int .i64 xc, .int .i64 yc]),
      (fun v _ _ => v = .agg #[.int .i64 xd, .int .i64 yd]),
      (fun v _ _ => v = .agg #[.int .i64 xb, .int .i64 yb]),
      SignR (det xc yc xd yd xb yb),
      SignR ((det xc yc xd yd xa ya) * (det xc yc xd yd xb yb)),
      (fun v _ _ => v = .bool true),
      (fun v _ _ => v = .bool true),
      (fun v _ _ => v = .bool true)
    ] (fun _ => none) (by kernel_rfl) (by kernel_rfl) ⟨stab_eq, stab_eq, stab_eq, stab_firm (signR_firm _), stab_eq, stab_eq, stab_eq, stab_firm (signR_firm _), stab_firm (signR_firm _), stab_eq, stab_eq, stab_eq, stab_eq, stab_eq, stab_firm (signR_firm _), stab_eq, stab_eq, stab_eq, stab_firm (signR_firm _), stab_firm (signR_firm _), stab_eq, stab_eq, stab_eq, trivial⟩ ?steps ?fin
  case steps =>
    refine ⟨?_, ?_, ?_, ?_, ?_, ?_, ?_, ?_, ?_, ?_, ?_, ?_, ?_, ?_, ?_, ?_, ?_, ?_, ?_, ?_, ?_, ?_, ?_, trivial⟩
    · intro vs g w2 hI hF hR K hK
      simp only [Facts, fill, Act.put, z1, z2, z3, z4, z5, Nat.reduceAdd] at hF hR hK ⊢
      have k0 := hI.cell C0_W_0.out (by first | exact HO0 | exact HO1 | exact HO2 | exact HO3 | assumption)
      have k1 := hI.cell C0_W_1.out (by first | exact HO0 | exact HO1 | exact HO2 | exact HO3 | assumption)
      go_simp
      exact hK _ _ _ hI (Step.refl hI) rfl
    · intro vs g w2 hI hF hR K hK
      simp only [Facts, fill, Act.put, z1, z2, z3, z4, z5, Nat.reduceAdd] at hF hR hK ⊢
      have k0 := hI.cell C1_W_0.out (by first | exact HO0 | exact HO1 | exact HO2 | exact HO3 | assumption)
      have k1 := hI.cell C1_W_1.out (by first | exact HO0 | exact HO1 | exact HO2 | exact HO3 | assumption)
      go_simp
      exact hK _ _ _ hI (Step.refl hI) rfl
    · intro vs g w2 hI hF hR K hK
      simp only [Facts, fill, Act.put, z1, z2, z3, z4, z5, Nat.reduceAdd] at hF hR hK ⊢
      have k0 := hI.cell C2_W_0.out (by first | exact HO0 | exact HO1 | exact HO2 | exact HO3 | assumption)
      have k1 := hI.cell C2_W_1.out (by first | exact HO0 | exact HO1 | exact HO2 | exact HO3 | assumption)
      go_simp
      exact hK _ _ _ hI (Step.refl hI) rfl
    · intro vs g w2 hI hF hR K hK
      simp only [Facts, fill, Act.put, z1, z2, z3, z4, z5, Nat.reduceAdd] at hF hR hK ⊢
      obtain ⟨r0, r1, r2, -⟩ := hR
      generalize vs 0 = x0, vs 1 = x1, vs 2 = x2 at *
      subst r0 r1 r2
      go_simp
      refine (gRef6Sign hI (by first | assumption | (unfold S; decide)) (by first | assumption | (unfold S; decide)) (by first | assumption | (unfold S; decide)) (by first | assumption | (unfold S; decide)) (by first | assumption | (unfold S; decide)) (by first | assumption | (unfold S; decide))).mono ?_
      rintro e w3 ⟨v3, rfl, hv, hb⟩
      exact hK _ _ _ (hI.call hb) (Step.call hI hb) hv
    · intro vs g w2 hI hF hR K hK
      simp only [Facts, fill, Act.put, z1, z2, z3, z4, z5, Nat.reduceAdd] at hF hR hK ⊢
      have k0 := hI.cell C0_W_0.out (by first | exact HO0 | exact HO1 | exact HO2 | exact HO3 | assumption)
      have k1 := hI.cell C0_W_1.out (by first | exact HO0 | exact HO1 | exact HO2 | exact HO3 | assumption)
      go_simp
      exact hK _ _ _ hI (Step.refl hI) rfl
    · intro vs g w2 hI hF hR K hK
      simp only [Facts, fill, Act.put, z1, z2, z3, z4, z5, Nat.reduceAdd] at hF hR hK ⊢
      have k0 := hI.cell C1_W_0.out (by first | exact HO0 | exact HO1 | exact HO2 | exact HO3 | assumption)
      have k1 := hI.cell C1_W_1.out (by first | exact HO0 | exact HO1 | exact HO2 | exact HO3 | assumption)
      go_simp
      exact hK _ _ _ hI (Step.refl hI) rfl
    · intro vs g w2 hI hF hR K hK
      simp only [Facts, fill, Act.put, z1, z2, z3, z4, z5, Nat.reduceAdd] at hF hR hK ⊢
      have k0 := hI.cell C3_W_0.out (by first | exact HO0 | exact HO1 | exact HO2 | exact HO3 | assumption)
      have k1 := hI.cell C3_W_1.out (by first | exact HO0 | exact HO1 | exact HO2 | exact HO3 | assumption)
      go_simp
      exact hK _ _ _ hI (Step.refl hI) rfl
    · intro vs g w2 hI hF hR K hK
      simp only [Facts, fill, Act.put, z1, z2, z3, z4, z5, Nat.reduceAdd] at hF hR hK ⊢
      obtain ⟨r4, r5, r6, -⟩ := hR
      generalize vs 4 = x4, vs 5 = x5, vs 6 = x6 at *
      subst r4 r5 r6
      go_simp
      refine (gRef6Sign hI (by first | assumption | (unfold S; decide)) (by first | assumption | (unfold S; decide)) (by first | assumption | (unfold S; decide)) (by first | assumption | (unfold S; decide)) (by first | assumption | (unfold S; decide)) (by first | assumption | (unfold S; decide))).mono ?_
      rintro e w3 ⟨v3, rfl, hv, hb⟩
      exact hK _ _ _ (hI.call hb) (Step.call hI hb) hv
    · intro vs g w2 hI hF hR K hK
      simp only [Facts, fill, Act.put, z1, z2, z3, z4, z5, Nat.reduceAdd] at hF hR hK ⊢
      obtain ⟨r3, r7, -⟩ := hR
      generalize vs 3 = x3, vs 7 = x7 at *
      have q3 := r3
      obtain ⟨s3, rfl, -⟩ := r3
      have q7 := r7
      obtain ⟨s7, rfl, -⟩ := r7
      obtain ⟨he, hn⟩ := signR_mul q3 q7
      clear q3
      clear q7
      go_simp
      exact hK _ _ _ hI (Step.refl hI) hn
    · intro vs g w2 hI hF hR K hK
      simp only [Facts, fill, Act.put, z1, z2, z3, z4, z5, Nat.reduceAdd] at hF hR hK ⊢
      obtain ⟨r8, -⟩ := hR
      generalize vs 8 = x8 at *
      have q := r8
      obtain ⟨s0, rfl, -⟩ := r8
      have hz : decide (s0 < 0) = true := sgn_lt q H0.out
      clear q
      go_simp
      exact hK _ _ _ hI (Step.refl hI) rfl
    · intro vs g w2 hI hF hR K hK
      simp only [Facts, fill, Act.put, z1, z2, z3, z4, z5, Nat.reduceAdd] at hF hR hK ⊢
      obtain ⟨r9, -⟩ := hR
      generalize vs 9 = x9 at *
      subst r9
      go_simp
      exact hK _ _ _ hI (Step.refl hI) rfl
    · intro vs g w2 hI hF hR K hK
      simp only [Facts, fill, Act.put, z1, z2, z3, z4, z5, Nat.reduceAdd] at hF hR hK ⊢
      obtain ⟨r10, -⟩ := hR
      generalize vs 10 = x10 at *
      subst r10
      have k0 := hI.cell C2_W_0.out (by first | exact HO0 | exact HO1 | exact HO2 | exact HO3 | assumption)
      have k1 := hI.cell C2_W_1.out (by first | exact HO0 | exact HO1 | exact HO2 | exact HO3 | assumption)
      go_simp
      exact hK _ _ _ hI (Step.refl hI) rfl
    · intro vs g w2 hI hF hR K hK
      simp only [Facts, fill, Act.put, z1, z2, z3, z4, z5, Nat.reduceAdd] at hF hR hK ⊢
      obtain ⟨r10, -⟩ := hR
      generalize vs 10 = x10 at *
      subst r10
      have k0 := hI.cell C3_W_0.out (by first | exact HO0 | exact HO1 | exact HO2 | exact HO3 | assumption)
      have k1 := hI.cell C3_W_1.out (by first | exact HO0 | exact HO1 | exact HO2 | exact HO3 | assumption)
      go_simp
      exact hK _ _ _ hI (Step.refl hI) rfl
    · intro vs g w2 hI hF hR K hK
      simp only [Facts, fill, Act.put, z1, z2, z3, z4, z5, Nat.reduceAdd] at hF hR hK ⊢
      obtain ⟨r10, -⟩ := hR
      generalize vs 10 = x10 at *
      subst r10
      have k0 := hI.cell C0_W_0.out (by first | exact HO0 | exact HO1 | exact HO2 | exact HO3 | assumption)
      have k1 := hI.cell C0_W_1.out (by first | exact HO0 | exact HO1 | exact HO2 | exact HO3 | assumption)
      go_simp
      exact hK _ _ _ hI (Step.refl hI) rfl
    · intro vs g w2 hI hF hR K hK
      simp only [Facts, fill, Act.put, z1, z2, z3, z4, z5, Nat.reduceAdd] at hF hR hK ⊢
      obtain ⟨r10, r11, r12, r13, -⟩ := hR
      generalize vs 10 = x10, vs 11 = x11, vs 12 = x12, vs 13 = x13 at *
      subst r10 r11 r12 r13
      go_simp
      refine (gRef6Sign hI (by first | assumption | (unfold S; decide)) (by first | assumption | (unfold S; decide)) (by first | assumption | (unfold S; decide)) (by first | assumption | (unfold S; decide)) (by first | assumption | (unfold S; decide)) (by first | assumption | (unfold S; decide))).mono ?_
      rintro e w3 ⟨v3, rfl, hv, hb⟩
      exact hK _ _ _ (hI.call hb) (Step.call hI hb) hv
    · intro vs g w2 hI hF hR K hK
      simp only [Facts, fill, Act.put, z1, z2, z3, z4, z5, Nat.reduceAdd] at hF hR hK ⊢
      obtain ⟨r10, -⟩ := hR
      generalize vs 10 = x10 at *
      subst r10
      have k0 := hI.cell C2_W_0.out (by first | exact HO0 | exact HO1 | exact HO2 | exact HO3 | assumption)
      have k1 := hI.cell C2_W_1.out (by first | exact HO0 | exact HO1 | exact HO2 | exact HO3 | assumption)
      go_simp
      exact hK _ _ _ hI (Step.refl hI) rfl
    · intro vs g w2 hI hF hR K hK
      simp only [Facts, fill, Act.put, z1, z2, z3, z4, z5, Nat.reduceAdd] at hF hR hK ⊢
      obtain ⟨r10, -⟩ := hR
      generalize vs 10 = x10 at *
      subst r10
      have k0 := hI.cell C3_W_0.out (by first | exact HO0 | exact HO1 | exact HO2 | exact HO3 | assumption)
      have k1 := hI.cell C3_W_1.out (by first | exact HO0 | exact HO1 | exact HO2 | exact HO3 | assumption)
      go_simp
      exact hK _ _ _ hI (Step.refl hI) rfl
    · intro vs g w2 hI hF hR K hK
      simp only [Facts, fill, Act.put, z1, z2, z3, z4, z5, Nat.reduceAdd] at hF hR hK ⊢
      obtain ⟨r10, -⟩ := hR
      generalize vs 10 = x10 at *
      subst r10
      have k0 := hI.cell C1_W_0.out (by first | exact HO0 | exact HO1 | exact HO2 | exact HO3 | assumption)
      have k1 := hI.cell C1_W_1.out (by first | exact HO0 | exact HO1 | exact HO2 | exact HO3 | assumption)
      go_simp
      exact hK _ _ _ hI (Step.refl hI) rfl
    · intro vs g w2 hI hF hR K hK
      simp only [Facts, fill, Act.put, z1, z2, z3, z4, z5, Nat.reduceAdd] at hF hR hK ⊢
      obtain ⟨r10, r15, r16, r17, -⟩ := hR
      generalize vs 10 = x10, vs 15 = x15, vs 16 = x16, vs 17 = x17 at *
      subst r10 r15 r16 r17
      go_simp
      refine (gRef6Sign hI (by first | assumption | (unfold S; decide)) (by first | assumption | (unfold S; decide)) (by first | assumption | (unfold S; decide)) (by first | assumption | (unfold S; decide)) (by first | assumption | (unfold S; decide)) (by first | assumption | (unfold S; decide))).mono ?_
      rintro e w3 ⟨v3, rfl, hv, hb⟩
      exact hK _ _ _ (hI.call hb) (Step.call hI hb) hv
    · intro vs g w2 hI hF hR K hK
      simp only [Facts, fill, Act.put, z1, z2, z3, z4, z5, Nat.reduceAdd] at hF hR hK ⊢
      obtain ⟨r10, r14, r18, -⟩ := hR
      generalize vs 10 = x10, vs 14 = x14, vs 18 = x18 at *
      subst r10
      have q14 := r14
      obtain ⟨s14, rfl, -⟩ := r14
      have q18 := r18
      obtain ⟨s18, rfl, -⟩ := r18
      obtain ⟨he, hn⟩ := signR_mul q14 q18
      clear q14
      clear q18
      go_simp
      exact hK _ _ _ hI (Step.refl hI) hn
    · intro vs g w2 hI hF hR K hK
      simp only [Facts, fill, Act.put, z1, z2, z3, z4, z5, Nat.reduceAdd] at hF hR hK ⊢
      obtain ⟨r10, r19, -⟩ := hR
      generalize vs 10 = x10, vs 19 = x19 at *
      subst r10
      have q := r19
      obtain ⟨s0, rfl, -⟩ := r19
      have hz : decide (s0 < 0) = true := sgn_lt q H1.out
      clear q
      go_simp
      exact hK _ _ _ hI (Step.refl hI) rfl
    · intro vs g w2 hI hF hR K hK
      simp only [Facts, fill, Act.put, z1, z2, z3, z4, z5, Nat.reduceAdd] at hF hR hK ⊢
      obtain ⟨r10, r20, -⟩ := hR
      generalize vs 10 = x10, vs 20 = x20 at *
      subst r10 r20
      go_simp
      exact hK _ _ _ hI (Step.refl hI) rfl
    · intro vs g w2 hI hF hR K hK
      simp only [Facts, fill, Act.put, z1, z2, z3, z4, z5, Nat.reduceAdd] at hF hR hK ⊢
      obtain ⟨r21, -⟩ := hR
      generalize vs 21 = x21 at *
      subst r21
      go_simp
      exact hK _ _ _ hI (Step.refl hI) rfl
  case fin =>
    intro vs g wR1 hI hR
    have r22 := hR 22 (by decide)
    simp only [fill, Act.put, z1, z2, z3, z4, z5] at r22 ⊢
    clear hR
    generalize vs 22 = x22 at *
    have C0_R1_0 := Lib.hid (hI.cell C0_W_0.out (by first | exact HO0 | exact HO1 | exact HO2 | exact HO3 | assumption))
    have C0_R1_1 := Lib.hid (hI.cell C0_W_1.out (by first | exact HO0 | exact HO1 | exact HO2 | exact HO3 | assumption))
    have C1_R1_0 := Lib.hid (hI.cell C1_W_0.out (by first | exact HO0 | exact HO1 | exact HO2 | exact HO3 | assumption))
    have C1_R1_1 := Lib.hid (hI.cell C1_W_1.out (by first | exact HO0 | exact HO1 | exact HO2 | exact HO3 | assumption))
    have C2_R1_0 := Lib.hid (hI.cell C2_W_0.out (by first | exact HO0 | exact HO1 | exact HO2 | exact HO3 | assumption))
    have C2_R1_1 := Lib.hid (hI.cell C2_W_1.out (by first | exact HO0 | exact HO1 | exact HO2 | exact HO3 | assumption))
    have C3_R1_0 := Lib.hid (hI.cell C3_W_0.out (by first | exact HO0 | exact HO1 | exact HO2 | exact HO3 | assumption))
    have C3_R1_1 := Lib.hid (hI.cell C3_W_1.out (by first | exact HO0 | exact HO1 | exact HO2 | exact HO3 | assumption))
    subst r22
    have hBR1 := hI.below
    have HCR1 := hI.next HOK
    clear hI
    go_wp2
    go_ret
    exact ⟨_, rfl, rfl, hBR1⟩
theorem gRef8Crosses {c0 : Ctx} {g0 : Gh} {w : World} {xa ya xb yb xc yc xd yd : Int} (hI0 : RInv c0 g0 w) (sxa : S xa) (sya : S ya) (sxb : S xb) (syb : S yb) (sxc : S xc) (syc : S yc) (sxd : S xd) (syd : S yd) :
    Calls Tryd.prog 16 #[.agg #[.int .i64 xa, .int .i64 ya], .agg #[.int .i64 xb, .int .i64 yb], .agg #[.int .i64 xc, .int .i64 yc], .agg #[.int .i64 xd, .int .i64 yd]] w (Gives (fun v _ _ => v = .bool (crossB xa ya xb yb xc yc xd yd)) g0 w) := by
  rcases h0 : oppB xa ya xb yb xc yc xd yd with _ | _
  · rw [show crossB xa ya xb yb xc yc xd yd = false by unfold crossB; rw [h0]; rfl]; exact gRef8CrossF hI0 sxa sya sxb syb sxc syc sxd syd h0
  · rcases h1 : oppB xc yc xd yd xa ya xb yb with _ | _
    · rw [show crossB xa ya xb yb xc yc xd yd = false by unfold crossB; rw [h0, h1]; rfl]; exact gRef8CrossTF hI0 sxa sya sxb syb sxc syc sxd syd h0 h1
    · rw [show crossB xa ya xb yb xc yc xd yd = true by unfold crossB; rw [h0, h1]; rfl]; exact gRef8CrossTT hI0 sxa sya sxb syb sxc syc sxd syd h0 h1
theorem gRef8ContainsR {c0 : Ctx} {g0 : Gh} {w : World} {xa ya xb yb xp yp : Int} {r : Bool} (hI0 : RInv c0 g0 w) (sxa : S xa) (sya : S ya) (sxb : S xb) (syb : S yb) (sxp : S xp) (syp : S yp) (h : contB xa ya xb yb xp yp = r) :
    Calls Tryd.prog 14 #[.agg #[.int .i64 xa, .int .i64 ya], .agg #[.int .i64 xb, .int .i64 yb], .agg #[.int .i64 xp, .int .i64 yp]] w (Gives (fun v _ _ => v = .bool r) g0 w) := by
  rw [← h]
  exact gRef8Contains hI0 sxa sya sxb syb sxp syp
theorem gRef8CrossesR {c0 : Ctx} {g0 : Gh} {w : World} {xa ya xb yb xc yc xd yd : Int} {r : Bool} (hI0 : RInv c0 g0 w) (sxa : S xa) (sya : S ya) (sxb : S xb) (syb : S yb) (sxc : S xc) (syc : S yc) (sxd : S xd) (syd : S yd) (h : crossB xa ya xb yb xc yc xd yd = r) :
    Calls Tryd.prog 16 #[.agg #[.int .i64 xa, .int .i64 ya], .agg #[.int .i64 xb, .int .i64 yb], .agg #[.int .i64 xc, .int .i64 yc], .agg #[.int .i64 xd, .int .i64 yd]] w (Gives (fun v _ _ => v = .bool r) g0 w) := by
  rw [← h]
  exact gRef8Crosses hI0 sxa sya sxb syb sxc syc sxd syd
set_option maxRecDepth 100000 in
set_option maxHeartbeats 4000000 in
theorem gRef8MeetT {c0 : Ctx} {g0 : Gh} {w : World} {xa ya xb yb xc yc xd yd : Int} (hI0 : RInv c0 g0 w) (sxa : S xa) (sya : S ya) (sxb : S xb) (syb : S yb) (sxc : S xc) (syc : S yc) (sxd : S xd) (syd : S yd) (h0 : crossB xa ya xb yb xc yc xd yd = true) :
    Calls Tryd.prog 18 #[.agg #[.int .i64 xa, .int .i64 ya], .agg #[.int .i64 xb, .int .i64 yb], .agg #[.int .i64 xc, .int .i64 yc], .agg #[.int .i64 xd, .int .i64 yd]] w (Gives (fun v _ _ => v = .bool true) g0 w) := by
  have H0 := Lib.hid h0
  clear h0
  obtain ⟨W, hW⟩ : ∃ W, W = (((w.alloc (.cells #[.int .i64 xa, .int .i64 ya] 28)).alloc (.cells #[.int .i64 xb, .int .i64 yb] 28)).alloc (.cells #[.int .i64 xc, .int .i64 yc] 28)).alloc (.cells #[.int .i64 xd, .int .i64 yd] 28) := ⟨_, rfl⟩
  have hb0 : Below w.heap.size w W := by rw [hW]; exact (((((Below.refl _ _).alloc (Nat.le_refl _) _).alloc (by simp) _).alloc (by simp; omega) _).alloc (by simp; omega) _)
  have HOK := Ctx.ok_lift0 hI0 hb0
  have C0_W_0 := Lib.hid (show W.cell? ⟨w.heap.size, 0, none⟩ = some (.int .i64 xa) by rw [hW]; simp [go_sem])
  have C0_W_1 := Lib.hid (show W.cell? ⟨w.heap.size, 1, none⟩ = some (.int .i64 ya) by rw [hW]; simp [go_sem])
  have HO0 : Off (lift0 g0) (w.heap.size) := lift0_off (hI0.offs _ (by omega))
  have C1_W_0 := Lib.hid (show W.cell? ⟨w.heap.size + 1, 0, none⟩ = some (.int .i64 xb) by rw [hW]; simp [go_sem])
  have C1_W_1 := Lib.hid (show W.cell? ⟨w.heap.size + 1, 1, none⟩ = some (.int .i64 yb) by rw [hW]; simp [go_sem])
  have HO1 : Off (lift0 g0) (w.heap.size + 1) := lift0_off (hI0.offs _ (by omega))
  have C2_W_0 := Lib.hid (show W.cell? ⟨w.heap.size + 1 + 1, 0, none⟩ = some (.int .i64 xc) by rw [hW]; simp [go_sem])
  have C2_W_1 := Lib.hid (show W.cell? ⟨w.heap.size + 1 + 1, 1, none⟩ = some (.int .i64 yc) by rw [hW]; simp [go_sem])
  have HO2 : Off (lift0 g0) (w.heap.size + 1 + 1) := lift0_off (hI0.offs _ (by omega))
  have C3_W_0 := Lib.hid (show W.cell? ⟨w.heap.size + 1 + 1 + 1, 0, none⟩ = some (.int .i64 xd) by rw [hW]; simp [go_sem])
  have C3_W_1 := Lib.hid (show W.cell? ⟨w.heap.size + 1 + 1 + 1, 1, none⟩ = some (.int .i64 yd) by rw [hW]; simp [go_sem])
  have HO3 : Off (lift0 g0) (w.heap.size + 1 + 1 + 1) := lift0_off (hI0.offs _ (by omega))
  have HW := Lib.hid hW
  clear hW
  go_enter Tryd.func18, Tryd.ntmps18
  go_upto_region 1 with (fail)
  rw [← HW.out]
  refine box_plan0 (c := ⟨w, W, (lift0 g0)⟩) HOK [[], [], [], [], [(9, 0), (10, 1), (11, 2), (12, 3)], [(13, 4)], [(14, 5)], [(14, 5)], [(14, 5)], [(14, 5), (15, 6), (16, 7), (17, 8)], [(14, 5), (18, 9)], [(19, 10)], [(20, 11)], [(20, 11)], [(20, 11)], [(20, 11), (21, 12), (22, 13), (23, 14)], [(20, 11), (24, 15)], [(25, 16)], [(26, 17)], [(26, 17)], [(26, 17)], [(26, 17), (27, 18), (28, 19), (29, 20)], [(26, 17), (30, 21)], [(31, 22)], [(32, 23)], [(32, 23)], [(32, 23)], [(32, 23), (33, 24), (34, 25), (35, 26)], [(32, 23), (36, 27)], [(37, 28)]] [(9, 0), (10, 1), (11, 2), (12, 3), (13, 4), (14, 5), (15, 6), (16, 7), (17, 8), (18, 9), (19, 10), (20, 11), (21, 12), (22, 13), (23, 14), (24, 15), (25, 16), (26, 17), (27, 18), (28, 19), (29, 20), (30, 21), (31, 22), (32, 23), (33, 24), (34, 25), (35, 26), (36, 27), (37, 28), (8, 29)] [
      (fun v _ _ => v = .agg #[.int .i64 xa, .int .i64 ya]),
      (fun v _ _ => v = .agg #[.int .i64 xb, .int .i64 yb]),
      (fun v _ _ => v = .agg #[.int .i64 xc, .int .i64 yc]),
      (fun v _ _ => v = .agg #[.int .i64 xd, .int .i64 yd]),
      (fun v _ _ => v = .bool true),
      (fun v _ _ => v = .bool true),
      (fun v _ _ => v = undef),
      (fun v _ _ => v = undef),
      (fun v _ _ => v = undef),
      (fun v _ _ => v = undef),
      (fun v _ _ => v = .bool true),
      (fun v _ _ => v = .bool true),
      (fun v _ _ => v = undef),
      (fun v _ _ => v = undef),
      (fun v _ _ => v = undef),
      (fun v _ _ => v = undef),
      (fun v _ _ => v = .bool true),
      (fun v _ _ => v = .bool true),
      (fun v _ _ => v = undef),
      (fun v _ _ => v = undef),
      (fun v _ _ => v = undef),
      (fun v _ _ => v = undef),
      (fun v _ _ => v = .bool true),
      (fun v _ _ => v = .bool true),
      (fun v _ _ => v = undef),
      (fun v _ _ => v = undef),
      (fun v _ _ => v = undef),
      (fun v _ _ => v = undef),
      (fun v _ _ => v = .bool true),
      (fun v _ _ => v = .bool true)
    ] (fun _ => none) (by kernel_rfl) (by kernel_rfl) ⟨stab_eq, stab_eq, stab_eq, stab_eq, stab_eq, stab_eq, stab_eq, stab_eq, stab_eq, stab_eq, stab_eq, stab_eq, stab_eq, stab_eq, stab_eq, stab_eq, stab_eq, stab_eq, stab_eq, stab_eq, stab_eq, stab_eq, stab_eq, stab_eq, stab_eq, stab_eq, stab_eq, stab_eq, stab_eq, stab_eq, trivial⟩ ?steps ?fin
  case steps =>
    refine ⟨?_, ?_, ?_, ?_, ?_, ?_, ?_, ?_, ?_, ?_, ?_, ?_, ?_, ?_, ?_, ?_, ?_, ?_, ?_, ?_, ?_, ?_, ?_, ?_, ?_, ?_, ?_, ?_, ?_, ?_, trivial⟩
    · intro vs g w2 hI hF hR K hK
      simp only [Facts, fill, Act.put, z1, z2, z3, z4, z5, Nat.reduceAdd] at hF hR hK ⊢
      have k0 := hI.cell C0_W_0.out (by first | exact HO0 | exact HO1 | exact HO2 | exact HO3 | assumption)
      have k1 := hI.cell C0_W_1.out (by first | exact HO0 | exact HO1 | exact HO2 | exact HO3 | assumption)
      go_simp
      exact hK _ _ _ hI (Step.refl hI) rfl
    · intro vs g w2 hI hF hR K hK
      simp only [Facts, fill, Act.put, z1, z2, z3, z4, z5, Nat.reduceAdd] at hF hR hK ⊢
      have k0 := hI.cell C1_W_0.out (by first | exact HO0 | exact HO1 | exact HO2 | exact HO3 | assumption)
      have k1 := hI.cell C1_W_1.out (by first | exact HO0 | exact HO1 | exact HO2 | exact HO3 | assumption)
      go_simp
      exact hK _ _ _ hI (Step.refl hI) rfl
    · intro vs g w2 hI hF hR K hK
      simp only [Facts, fill, Act.put, z1, z2, z3, z4, z5, Nat.reduceAdd] at hF hR hK ⊢
      have k0 := hI.cell C2_W_0.out (by first | exact HO0 | exact HO1 | exact HO2 | exact HO3 | assumption)
      have k1 := hI.cell C2_W_1.out (by first | exact HO0 | exact HO1 | exact HO2 | exact HO3 | assumption)
      go_simp
      exact hK _ _ _ hI (Step.refl hI) rfl
    · intro vs g w2 hI hF hR K hK
      simp only [Facts, fill, Act.put, z1, z2, z3, z4, z5, Nat.reduceAdd] at hF hR hK ⊢
      have k0 := hI.cell C3_W_0.out (by first | exact HO0 | exact HO1 | exact HO2 | exact HO3 | assumption)
      have k1 := hI.cell C3_W_1.out (by first | exact HO0 | exact HO1 | exact HO2 | exact HO3 | assumption)
      go_simp
      exact hK _ _ _ hI (Step.refl hI) rfl
    · intro vs g w2 hI hF hR K hK
      simp only [Facts, fill, Act.put, z1, z2, z3, z4, z5, Nat.reduceAdd] at hF hR hK ⊢
      obtain ⟨r0, r1, r2, r3, -⟩ := hR
      generalize vs 0 = x0, vs 1 = x1, vs 2 = x2, vs 3 = x3 at *
      subst r0 r1 r2 r3
      go_simp
      refine (gRef8CrossesR hI sxa sya sxb syb sxc syc sxd syd H0.out).mono ?_
      rintro e w3 ⟨v3, rfl, hv, hb⟩
      exact hK _ _ _ (hI.call hb) (Step.call hI hb) hv
    · intro vs g w2 hI hF hR K hK
      simp only [Facts, fill, Act.put, z1, z2, z3, z4, z5, Nat.reduceAdd] at hF hR hK ⊢
      obtain ⟨r4, -⟩ := hR
      generalize vs 4 = x4 at *
      subst r4
      go_simp
      exact hK _ _ _ hI (Step.refl hI) rfl
    · intro vs g w2 hI hF hR K hK
      simp only [Facts, fill, Act.put, z1, z2, z3, z4, z5, Nat.reduceAdd] at hF hR hK ⊢
      obtain ⟨r5, -⟩ := hR
      generalize vs 5 = x5 at *
      subst r5
      go_simp
      exact hK _ _ _ hI (Step.refl hI) rfl
    · intro vs g w2 hI hF hR K hK
      simp only [Facts, fill, Act.put, z1, z2, z3, z4, z5, Nat.reduceAdd] at hF hR hK ⊢
      obtain ⟨r5, -⟩ := hR
      generalize vs 5 = x5 at *
      subst r5
      go_simp
      exact hK _ _ _ hI (Step.refl hI) rfl
    · intro vs g w2 hI hF hR K hK
      simp only [Facts, fill, Act.put, z1, z2, z3, z4, z5, Nat.reduceAdd] at hF hR hK ⊢
      obtain ⟨r5, -⟩ := hR
      generalize vs 5 = x5 at *
      subst r5
      go_simp
      exact hK _ _ _ hI (Step.refl hI) rfl
    · intro vs g w2 hI hF hR K hK
      simp only [Facts, fill, Act.put, z1, z2, z3, z4, z5, Nat.reduceAdd] at hF hR hK ⊢
      obtain ⟨r5, r6, r7, r8, -⟩ := hR
      generalize vs 5 = x5, vs 6 = x6, vs 7 = x7, vs 8 = x8 at *
      subst r5 r6 r7 r8
      go_simp
      exact hK _ _ _ hI (Step.refl hI) rfl
    · intro vs g w2 hI hF hR K hK
      simp only [Facts, fill, Act.put, z1, z2, z3, z4, z5, Nat.reduceAdd] at hF hR hK ⊢
      obtain ⟨r5, r9, -⟩ := hR
      generalize vs 5 = x5, vs 9 = x9 at *
      subst r5 r9
      go_simp
      exact hK _ _ _ hI (Step.refl hI) rfl
    · intro vs g w2 hI hF hR K hK
      simp only [Facts, fill, Act.put, z1, z2, z3, z4, z5, Nat.reduceAdd] at hF hR hK ⊢
      obtain ⟨r10, -⟩ := hR
      generalize vs 10 = x10 at *
      subst r10
      go_simp
      exact hK _ _ _ hI (Step.refl hI) rfl
    · intro vs g w2 hI hF hR K hK
      simp only [Facts, fill, Act.put, z1, z2, z3, z4, z5, Nat.reduceAdd] at hF hR hK ⊢
      obtain ⟨r11, -⟩ := hR
      generalize vs 11 = x11 at *
      subst r11
      go_simp
      exact hK _ _ _ hI (Step.refl hI) rfl
    · intro vs g w2 hI hF hR K hK
      simp only [Facts, fill, Act.put, z1, z2, z3, z4, z5, Nat.reduceAdd] at hF hR hK ⊢
      obtain ⟨r11, -⟩ := hR
      generalize vs 11 = x11 at *
      subst r11
      go_simp
      exact hK _ _ _ hI (Step.refl hI) rfl
    · intro vs g w2 hI hF hR K hK
      simp only [Facts, fill, Act.put, z1, z2, z3, z4, z5, Nat.reduceAdd] at hF hR hK ⊢
      obtain ⟨r11, -⟩ := hR
      generalize vs 11 = x11 at *
      subst r11
      go_simp
      exact hK _ _ _ hI (Step.refl hI) rfl
    · intro vs g w2 hI hF hR K hK
      simp only [Facts, fill, Act.put, z1, z2, z3, z4, z5, Nat.reduceAdd] at hF hR hK ⊢
      obtain ⟨r11, r12, r13, r14, -⟩ := hR
      generalize vs 11 = x11, vs 12 = x12, vs 13 = x13, vs 14 = x14 at *
      subst r11 r12 r13 r14
      go_simp
      exact hK _ _ _ hI (Step.refl hI) rfl
    · intro vs g w2 hI hF hR K hK
      simp only [Facts, fill, Act.put, z1, z2, z3, z4, z5, Nat.reduceAdd] at hF hR hK ⊢
      obtain ⟨r11, r15, -⟩ := hR
      generalize vs 11 = x11, vs 15 = x15 at *
      subst r11 r15
      go_simp
      exact hK _ _ _ hI (Step.refl hI) rfl
    · intro vs g w2 hI hF hR K hK
      simp only [Facts, fill, Act.put, z1, z2, z3, z4, z5, Nat.reduceAdd] at hF hR hK ⊢
      obtain ⟨r16, -⟩ := hR
      generalize vs 16 = x16 at *
      subst r16
      go_simp
      exact hK _ _ _ hI (Step.refl hI) rfl
    · intro vs g w2 hI hF hR K hK
      simp only [Facts, fill, Act.put, z1, z2, z3, z4, z5, Nat.reduceAdd] at hF hR hK ⊢
      obtain ⟨r17, -⟩ := hR
      generalize vs 17 = x17 at *
      subst r17
      go_simp
      exact hK _ _ _ hI (Step.refl hI) rfl
    · intro vs g w2 hI hF hR K hK
      simp only [Facts, fill, Act.put, z1, z2, z3, z4, z5, Nat.reduceAdd] at hF hR hK ⊢
      obtain ⟨r17, -⟩ := hR
      generalize vs 17 = x17 at *
      subst r17
      go_simp
      exact hK _ _ _ hI (Step.refl hI) rfl
    · intro vs g w2 hI hF hR K hK
      simp only [Facts, fill, Act.put, z1, z2, z3, z4, z5, Nat.reduceAdd] at hF hR hK ⊢
      obtain ⟨r17, -⟩ := hR
      generalize vs 17 = x17 at *
      subst r17
      go_simp
      exact hK _ _ _ hI (Step.refl hI) rfl
    · intro vs g w2 hI hF hR K hK
      simp only [Facts, fill, Act.put, z1, z2, z3, z4, z5, Nat.reduceAdd] at hF hR hK ⊢
      obtain ⟨r17, r18, r19, r20, -⟩ := hR
      generalize vs 17 = x17, vs 18 = x18, vs 19 = x19, vs 20 = x20 at *
      subst r17 r18 r19 r20
      go_simp
      exact hK _ _ _ hI (Step.refl hI) rfl
    · intro vs g w2 hI hF hR K hK
      simp only [Facts, fill, Act.put, z1, z2, z3, z4, z5, Nat.reduceAdd] at hF hR hK ⊢
      obtain ⟨r17, r21, -⟩ := hR
      generalize vs 17 = x17, vs 21 = x21 at *
      subst r17 r21
      go_simp
      exact hK _ _ _ hI (Step.refl hI) rfl
    · intro vs g w2 hI hF hR K hK
      simp only [Facts, fill, Act.put, z1, z2, z3, z4, z5, Nat.reduceAdd] at hF hR hK ⊢
      obtain ⟨r22, -⟩ := hR
      generalize vs 22 = x22 at *
      subst r22
      go_simp
      exact hK _ _ _ hI (Step.refl hI) rfl
    · intro vs g w2 hI hF hR K hK
      simp only [Facts, fill, Act.put, z1, z2, z3, z4, z5, Nat.reduceAdd] at hF hR hK ⊢
      obtain ⟨r23, -⟩ := hR
      generalize vs 23 = x23 at *
      subst r23
      go_simp
      exact hK _ _ _ hI (Step.refl hI) rfl
    · intro vs g w2 hI hF hR K hK
      simp only [Facts, fill, Act.put, z1, z2, z3, z4, z5, Nat.reduceAdd] at hF hR hK ⊢
      obtain ⟨r23, -⟩ := hR
      generalize vs 23 = x23 at *
      subst r23
      go_simp
      exact hK _ _ _ hI (Step.refl hI) rfl
    · intro vs g w2 hI hF hR K hK
      simp only [Facts, fill, Act.put, z1, z2, z3, z4, z5, Nat.reduceAdd] at hF hR hK ⊢
      obtain ⟨r23, -⟩ := hR
      generalize vs 23 = x23 at *
      subst r23
      go_simp
      exact hK _ _ _ hI (Step.refl hI) rfl
    · intro vs g w2 hI hF hR K hK
      simp only [Facts, fill, Act.put, z1, z2, z3, z4, z5, Nat.reduceAdd] at hF hR hK ⊢
      obtain ⟨r23, r24, r25, r26, -⟩ := hR
      generalize vs 23 = x23, vs 24 = x24, vs 25 = x25, vs 26 = x26 at *
      subst r23 r24 r25 r26
      go_simp
      exact hK _ _ _ hI (Step.refl hI) rfl
    · intro vs g w2 hI hF hR K hK
      simp only [Facts, fill, Act.put, z1, z2, z3, z4, z5, Nat.reduceAdd] at hF hR hK ⊢
      obtain ⟨r23, r27, -⟩ := hR
      generalize vs 23 = x23, vs 27 = x27 at *
      subst r23 r27
      go_simp
      exact hK _ _ _ hI (Step.refl hI) rfl
    · intro vs g w2 hI hF hR K hK
      simp only [Facts, fill, Act.put, z1, z2, z3, z4, z5, Nat.reduceAdd] at hF hR hK ⊢
      obtain ⟨r28, -⟩ := hR
      generalize vs 28 = x28 at *
      subst r28
      go_simp
      exact hK _ _ _ hI (Step.refl hI) rfl
  case fin =>
    intro vs g wR1 hI hR
    have r29 := hR 29 (by decide)
    simp only [fill, Act.put, z1, z2, z3, z4, z5] at r29 ⊢
    clear hR
    generalize vs 29 = x29 at *
    have C0_R1_0 := Lib.hid (hI.cell C0_W_0.out (by first | exact HO0 | exact HO1 | exact HO2 | exact HO3 | assumption))
    have C0_R1_1 := Lib.hid (hI.cell C0_W_1.out (by first | exact HO0 | exact HO1 | exact HO2 | exact HO3 | assumption))
    have C1_R1_0 := Lib.hid (hI.cell C1_W_0.out (by first | exact HO0 | exact HO1 | exact HO2 | exact HO3 | assumption))
    have C1_R1_1 := Lib.hid (hI.cell C1_W_1.out (by first | exact HO0 | exact HO1 | exact HO2 | exact HO3 | assumption))
    have C2_R1_0 := Lib.hid (hI.cell C2_W_0.out (by first | exact HO0 | exact HO1 | exact HO2 | exact HO3 | assumption))
    have C2_R1_1 := Lib.hid (hI.cell C2_W_1.out (by first | exact HO0 | exact HO1 | exact HO2 | exact HO3 | assumption))
    have C3_R1_0 := Lib.hid (hI.cell C3_W_0.out (by first | exact HO0 | exact HO1 | exact HO2 | exact HO3 | assumption))
    have C3_R1_1 := Lib.hid (hI.cell C3_W_1.out (by first | exact HO0 | exact HO1 | exact HO2 | exact HO3 | assumption))
    subst r29
    have hBR1 := hI.below
    have HCR1 := hI.next HOK
    clear hI
    go_wp2
    go_ret
    exact ⟨_, rfl, rfl, hBR1⟩
set_option maxRecDepth 100000 in
set_option maxHeartbeats 4000000 in
theorem gRef8MeetFT {c0 : Ctx} {g0 : Gh} {w : World} {xa ya xb yb xc yc xd yd : Int} (hI0 : RInv c0 g0 w) (sxa : S xa) (sya : S ya) (sxb : S xb) (syb : S yb) (sxc : S xc) (syc : S yc) (sxd : S xd) (syd : S yd) (h0 : crossB xa ya xb yb xc yc xd yd = false) (h1 : contB xa ya xb yb xc yc = true) :
    Calls Tryd.prog 18 #[.agg #[.int .i64 xa, .int .i64 ya], .agg #[.int .i64 xb, .int .i64 yb], .agg #[.int .i64 xc, .int .i64 yc], .agg #[.int .i64 xd, .int .i64 yd]] w (Gives (fun v _ _ => v = .bool true) g0 w) := by
  have H0 := Lib.hid h0
  have H1 := Lib.hid h1
  clear h0 h1
  obtain ⟨W, hW⟩ : ∃ W, W = (((w.alloc (.cells #[.int .i64 xa, .int .i64 ya] 28)).alloc (.cells #[.int .i64 xb, .int .i64 yb] 28)).alloc (.cells #[.int .i64 xc, .int .i64 yc] 28)).alloc (.cells #[.int .i64 xd, .int .i64 yd] 28) := ⟨_, rfl⟩
  have hb0 : Below w.heap.size w W := by rw [hW]; exact (((((Below.refl _ _).alloc (Nat.le_refl _) _).alloc (by simp) _).alloc (by simp; omega) _).alloc (by simp; omega) _)
  have HOK := Ctx.ok_lift0 hI0 hb0
  have C0_W_0 := Lib.hid (show W.cell? ⟨w.heap.size, 0, none⟩ = some (.int .i64 xa) by rw [hW]; simp [go_sem])
  have C0_W_1 := Lib.hid (show W.cell? ⟨w.heap.size, 1, none⟩ = some (.int .i64 ya) by rw [hW]; simp [go_sem])
  have HO0 : Off (lift0 g0) (w.heap.size) := lift0_off (hI0.offs _ (by omega))
  have C1_W_0 := Lib.hid (show W.cell? ⟨w.heap.size + 1, 0, none⟩ = some (.int .i64 xb) by rw [hW]; simp [go_sem])
  have C1_W_1 := Lib.hid (show W.cell? ⟨w.heap.size + 1, 1, none⟩ = some (.int .i64 yb) by rw [hW]; simp [go_sem])
  have HO1 : Off (lift0 g0) (w.heap.size + 1) := lift0_off (hI0.offs _ (by omega))
  have C2_W_0 := Lib.hid (show W.cell? ⟨w.heap.size + 1 + 1, 0, none⟩ = some (.int .i64 xc) by rw [hW]; simp [go_sem])
  have C2_W_1 := Lib.hid (show W.cell? ⟨w.heap.size + 1 + 1, 1, none⟩ = some (.int .i64 yc) by rw [hW]; simp [go_sem])
  have HO2 : Off (lift0 g0) (w.heap.size + 1 + 1) := lift0_off (hI0.offs _ (by omega))
  have C3_W_0 := Lib.hid (show W.cell? ⟨w.heap.size + 1 + 1 + 1, 0, none⟩ = some (.int .i64 xd) by rw [hW]; simp [go_sem])
  have C3_W_1 := Lib.hid (show W.cell? ⟨w.heap.size + 1 + 1 + 1, 1, none⟩ = some (.int .i64 yd) by rw [hW]; simp [go_sem])
  have HO3 : Off (lift0 g0) (w.heap.size + 1 + 1 + 1) := lift0_off (hI0.offs _ (by omega))
  have HW := Lib.hid hW
  clear hW
  go_enter Tryd.func18, Tryd.ntmps18
  go_upto_region 1 with (fail)
  rw [← HW.out]
  refine box_plan0 (c := ⟨w, W, (lift0 g0)⟩) HOK [[], [], [], [], [(9, 0), (10, 1), (11, 2), (12, 3)], [(13, 4)], [(14, 5)], [(14, 5)], [(14, 5)], [(14, 5), (15, 6), (16, 7), (17, 8)], [(14, 5), (18, 9)], [(19, 10)], [(20, 11)], [(20, 11)], [(20, 11)], [(20, 11), (21, 12), (22, 13), (23, 14)], [(20, 11), (24, 15)], [(25, 16)], [(26, 17)], [(26, 17)], [(26, 17)], [(26, 17), (27, 18), (28, 19), (29, 20)], [(26, 17), (30, 21)], [(31, 22)], [(32, 23)], [(32, 23)], [(32, 23)], [(32, 23), (33, 24), (34, 25), (35, 26)], [(32, 23), (36, 27)], [(37, 28)]] [(9, 0), (10, 1), (11, 2), (12, 3), (13, 4), (14, 5), (15, 6), (16, 7), (17, 8), (18, 9), (19, 10), (20, 11), (21, 12), (22, 13), (23, 14), (24, 15), (25, 16), (26, 17), (27, 18), (28, 19), (29, 20), (30, 21), (31, 22), (32, 23), (33, 24), (34, 25), (35, 26), (36, 27), (37, 28), (8, 29)] [
      (fun v _ _ => v = .agg #[.int .i64 xa, .int .i64 ya]),
      (fun v _ _ => v = .agg #[.int .i64 xb, .int .i64 yb]),
      (fun v _ _ => v = .agg #[.int .i64 xc, .int .i64 yc]),
      (fun v _ _ => v = .agg #[.int .i64 xd, .int .i64 yd]),
      (fun v _ _ => v = .bool false),
      (fun v _ _ => v = .bool false),
      (fun v _ _ => v = .agg #[.int .i64 xa, .int .i64 ya]),
      (fun v _ _ => v = .agg #[.int .i64 xb, .int .i64 yb]),
      (fun v _ _ => v = .agg #[.int .i64 xc, .int .i64 yc]),
      (fun v _ _ => v = .bool true),
      (fun v _ _ => v = .bool true),
      (fun v _ _ => v = .bool true),
      (fun v _ _ => v = undef),
      (fun v _ _ => v = undef),
      (fun v _ _ => v = undef),
      (fun v _ _ => v = undef),
      (fun v _ _ => v = .bool true),
      (fun v _ _ => v = .bool true),
      (fun v _ _ => v = undef),
      (fun v _ _ => v = undef),
      (fun v _ _ => v = undef),
      (fun v _ _ => v = undef),
      (fun v _ _ => v = .bool true),
      (fun v _ _ => v = .bool true),
      (fun v _ _ => v = undef),
      (fun v _ _ => v = undef),
      (fun v _ _ => v = undef),
      (fun v _ _ => v = undef),
      (fun v _ _ => v = .bool true),
      (fun v _ _ => v = .bool true)
    ] (fun _ => none) (by kernel_rfl) (by kernel_rfl) ⟨stab_eq, stab_eq, stab_eq, stab_eq, stab_eq, stab_eq, stab_eq, stab_eq, stab_eq, stab_eq, stab_eq, stab_eq, stab_eq, stab_eq, stab_eq, stab_eq, stab_eq, stab_eq, stab_eq, stab_eq, stab_eq, stab_eq, stab_eq, stab_eq, stab_eq, stab_eq, stab_eq, stab_eq, stab_eq, stab_eq, trivial⟩ ?steps ?fin
  case steps =>
    refine ⟨?_, ?_, ?_, ?_, ?_, ?_, ?_, ?_, ?_, ?_, ?_, ?_, ?_, ?_, ?_, ?_, ?_, ?_, ?_, ?_, ?_, ?_, ?_, ?_, ?_, ?_, ?_, ?_, ?_, ?_, trivial⟩
    · intro vs g w2 hI hF hR K hK
      simp only [Facts, fill, Act.put, z1, z2, z3, z4, z5, Nat.reduceAdd] at hF hR hK ⊢
      have k0 := hI.cell C0_W_0.out (by first | exact HO0 | exact HO1 | exact HO2 | exact HO3 | assumption)
      have k1 := hI.cell C0_W_1.out (by first | exact HO0 | exact HO1 | exact HO2 | exact HO3 | assumption)
      go_simp
      exact hK _ _ _ hI (Step.refl hI) rfl
    · intro vs g w2 hI hF hR K hK
      simp only [Facts, fill, Act.put, z1, z2, z3, z4, z5, Nat.reduceAdd] at hF hR hK ⊢
      have k0 := hI.cell C1_W_0.out (by first | exact HO0 | exact HO1 | exact HO2 | exact HO3 | assumption)
      have k1 := hI.cell C1_W_1.out (by first | exact HO0 | exact HO1 | exact HO2 | exact HO3 | assumption)
      go_simp
      exact hK _ _ _ hI (Step.refl hI) rfl
    · intro vs g w2 hI hF hR K hK
      simp only [Facts, fill, Act.put, z1, z2, z3, z4, z5, Nat.reduceAdd] at hF hR hK ⊢
      have k0 := hI.cell C2_W_0.out (by first | exact HO0 | exact HO1 | exact HO2 | exact HO3 | assumption)
      have k1 := hI.cell C2_W_1.out (by first | exact HO0 | exact HO1 | exact HO2 | exact HO3 | assumption)
      go_simp
      exact hK _ _ _ hI (Step.refl hI) rfl
    · intro vs g w2 hI hF hR K hK
      simp only [Facts, fill, Act.put, z1, z2, z3, z4, z5, Nat.reduceAdd] at hF hR hK ⊢
      have k0 := hI.cell C3_W_0.out (by first | exact HO0 | exact HO1 | exact HO2 | exact HO3 | assumption)
      have k1 := hI.cell C3_W_1.out (by first | exact HO0 | exact HO1 | exact HO2 | exact HO3 | assumption)
      go_simp
      exact hK _ _ _ hI (Step.refl hI) rfl
    · intro vs g w2 hI hF hR K hK
      simp only [Facts, fill, Act.put, z1, z2, z3, z4, z5, Nat.reduceAdd] at hF hR hK ⊢
      obtain ⟨r0, r1, r2, r3, -⟩ := hR
      generalize vs 0 = x0, vs 1 = x1, vs 2 = x2, vs 3 = x3 at *
      subst r0 r1 r2 r3
      go_simp
      refine (gRef8CrossesR hI sxa sya sxb syb sxc syc sxd syd H0.out).mono ?_
      rintro e w3 ⟨v3, rfl, hv, hb⟩
      exact hK _ _ _ (hI.call hb) (Step.call hI hb) hv
    · intro vs g w2 hI hF hR K hK
      simp only [Facts, fill, Act.put, z1, z2, z3, z4, z5, Nat.reduceAdd] at hF hR hK ⊢
      obtain ⟨r4, -⟩ := hR
      generalize vs 4 = x4 at *
      subst r4
      go_simp
      exact hK _ _ _ hI (Step.refl hI) rfl
    · intro vs g w2 hI hF hR K hK
      simp only [Facts, fill, Act.put, z1, z2, z3, z4, z5, Nat.reduceAdd] at hF hR hK ⊢
      obtain ⟨r5, -⟩ := hR
      generalize vs 5 = x5 at *
      subst r5
      have k0 := hI.cell C0_W_0.out (by first | exact HO0 | exact HO1 | exact HO2 | exact HO3 | assumption)
      have k1 := hI.cell C0_W_1.out (by first | exact HO0 | exact HO1 | exact HO2 | exact HO3 | assumption)
      go_simp
      exact hK _ _ _ hI (Step.refl hI) rfl
    · intro vs g w2 hI hF hR K hK
      simp only [Facts, fill, Act.put, z1, z2, z3, z4, z5, Nat.reduceAdd] at hF hR hK ⊢
      obtain ⟨r5, -⟩ := hR
      generalize vs 5 = x5 at *
      subst r5
      have k0 := hI.cell C1_W_0.out (by first | exact HO0 | exact HO1 | exact HO2 | exact HO3 | assumption)
      have k1 := hI.cell C1_W_1.out (by first | exact HO0 | exact HO1 | exact HO2 | exact HO3 | assumption)
      go_simp
      exact hK _ _ _ hI (Step.refl hI) rfl
    · intro vs g w2 hI hF hR K hK
      simp only [Facts, fill, Act.put, z1, z2, z3, z4, z5, Nat.reduceAdd] at hF hR hK ⊢
      obtain ⟨r5, -⟩ := hR
      generalize vs 5 = x5 at *
      subst r5
      have k0 := hI.cell C2_W_0.out (by first | exact HO0 | exact HO1 | exact HO2 | exact HO3 | assumption)
      have k1 := hI.cell C2_W_1.out (by first | exact HO0 | exact HO1 | exact HO2 | exact HO3 | assumption)
      go_simp
      exact hK _ _ _ hI (Step.refl hI) rfl
    · intro vs g w2 hI hF hR K hK
      simp only [Facts, fill, Act.put, z1, z2, z3, z4, z5, Nat.reduceAdd] at hF hR hK ⊢
      obtain ⟨r5, r6, r7, r8, -⟩ := hR
      generalize vs 5 = x5, vs 6 = x6, vs 7 = x7, vs 8 = x8 at *
      subst r5 r6 r7 r8
      go_simp
      refine (gRef8ContainsR hI sxa sya sxb syb sxc syc H1.out).mono ?_
      rintro e w3 ⟨v3, rfl, hv, hb⟩
      exact hK _ _ _ (hI.call hb) (Step.call hI hb) hv
    · intro vs g w2 hI hF hR K hK
      simp only [Facts, fill, Act.put, z1, z2, z3, z4, z5, Nat.reduceAdd] at hF hR hK ⊢
      obtain ⟨r5, r9, -⟩ := hR
      generalize vs 5 = x5, vs 9 = x9 at *
      subst r5 r9
      go_simp
      exact hK _ _ _ hI (Step.refl hI) rfl
    · intro vs g w2 hI hF hR K hK
      simp only [Facts, fill, Act.put, z1, z2, z3, z4, z5, Nat.reduceAdd] at hF hR hK ⊢
      obtain ⟨r10, -⟩ := hR
      generalize vs 10 = x10 at *
      subst r10
      go_simp
      exact hK _ _ _ hI (Step.refl hI) rfl
    · intro vs g w2 hI hF hR K hK
      simp only [Facts, fill, Act.put, z1, z2, z3, z4, z5, Nat.reduceAdd] at hF hR hK ⊢
      obtain ⟨r11, -⟩ := hR
      generalize vs 11 = x11 at *
      subst r11
      go_simp
      exact hK _ _ _ hI (Step.refl hI) rfl
    · intro vs g w2 hI hF hR K hK
      simp only [Facts, fill, Act.put, z1, z2, z3, z4, z5, Nat.reduceAdd] at hF hR hK ⊢
      obtain ⟨r11, -⟩ := hR
      generalize vs 11 = x11 at *
      subst r11
      go_simp
      exact hK _ _ _ hI (Step.refl hI) rfl
    · intro vs g w2 hI hF hR K hK
      simp only [Facts, fill, Act.put, z1, z2, z3, z4, z5, Nat.reduceAdd] at hF hR hK ⊢
      obtain ⟨r11, -⟩ := hR
      generalize vs 11 = x11 at *
      subst r11
      go_simp
      exact hK _ _ _ hI (Step.refl hI) rfl
    · intro vs g w2 hI hF hR K hK
      simp only [Facts, fill, Act.put, z1, z2, z3, z4, z5, Nat.reduceAdd] at hF hR hK ⊢
      obtain ⟨r11, r12, r13, r14, -⟩ := hR
      generalize vs 11 = x11, vs 12 = x12, vs 13 = x13, vs 14 = x14 at *
      subst r11 r12 r13 r14
      go_simp
      exact hK _ _ _ hI (Step.refl hI) rfl
    · intro vs g w2 hI hF hR K hK
      simp only [Facts, fill, Act.put, z1, z2, z3, z4, z5, Nat.reduceAdd] at hF hR hK ⊢
      obtain ⟨r11, r15, -⟩ := hR
      generalize vs 11 = x11, vs 15 = x15 at *
      subst r11 r15
      go_simp
      exact hK _ _ _ hI (Step.refl hI) rfl
    · intro vs g w2 hI hF hR K hK
      simp only [Facts, fill, Act.put, z1, z2, z3, z4, z5, Nat.reduceAdd] at hF hR hK ⊢
      obtain ⟨r16, -⟩ := hR
      generalize vs 16 = x16 at *
      subst r16
      go_simp
      exact hK _ _ _ hI (Step.refl hI) rfl
    · intro vs g w2 hI hF hR K hK
      simp only [Facts, fill, Act.put, z1, z2, z3, z4, z5, Nat.reduceAdd] at hF hR hK ⊢
      obtain ⟨r17, -⟩ := hR
      generalize vs 17 = x17 at *
      subst r17
      go_simp
      exact hK _ _ _ hI (Step.refl hI) rfl
    · intro vs g w2 hI hF hR K hK
      simp only [Facts, fill, Act.put, z1, z2, z3, z4, z5, Nat.reduceAdd] at hF hR hK ⊢
      obtain ⟨r17, -⟩ := hR
      generalize vs 17 = x17 at *
      subst r17
      go_simp
      exact hK _ _ _ hI (Step.refl hI) rfl
    · intro vs g w2 hI hF hR K hK
      simp only [Facts, fill, Act.put, z1, z2, z3, z4, z5, Nat.reduceAdd] at hF hR hK ⊢
      obtain ⟨r17, -⟩ := hR
      generalize vs 17 = x17 at *
      subst r17
      go_simp
      exact hK _ _ _ hI (Step.refl hI) rfl
    · intro vs g w2 hI hF hR K hK
      simp only [Facts, fill, Act.put, z1, z2, z3, z4, z5, Nat.reduceAdd] at hF hR hK ⊢
      obtain ⟨r17, r18, r19, r20, -⟩ := hR
      generalize vs 17 = x17, vs 18 = x18, vs 19 = x19, vs 20 = x20 at *
      subst r17 r18 r19 r20
      go_simp
      exact hK _ _ _ hI (Step.refl hI) rfl
    · intro vs g w2 hI hF hR K hK
      simp only [Facts, fill, Act.put, z1, z2, z3, z4, z5, Nat.reduceAdd] at hF hR hK ⊢
      obtain ⟨r17, r21, -⟩ := hR
      generalize vs 17 = x17, vs 21 = x21 at *
      subst r17 r21
      go_simp
      exact hK _ _ _ hI (Step.refl hI) rfl
    · intro vs g w2 hI hF hR K hK
      simp only [Facts, fill, Act.put, z1, z2, z3, z4, z5, Nat.reduceAdd] at hF hR hK ⊢
      obtain ⟨r22, -⟩ := hR
      generalize vs 22 = x22 at *
      subst r22
      go_simp
      exact hK _ _ _ hI (Step.refl hI) rfl
    · intro vs g w2 hI hF hR K hK
      simp only [Facts, fill, Act.put, z1, z2, z3, z4, z5, Nat.reduceAdd] at hF hR hK ⊢
      obtain ⟨r23, -⟩ := hR
      generalize vs 23 = x23 at *
      subst r23
      go_simp
      exact hK _ _ _ hI (Step.refl hI) rfl
    · intro vs g w2 hI hF hR K hK
      simp only [Facts, fill, Act.put, z1, z2, z3, z4, z5, Nat.reduceAdd] at hF hR hK ⊢
      obtain ⟨r23, -⟩ := hR
      generalize vs 23 = x23 at *
      subst r23
      go_simp
      exact hK _ _ _ hI (Step.refl hI) rfl
    · intro vs g w2 hI hF hR K hK
      simp only [Facts, fill, Act.put, z1, z2, z3, z4, z5, Nat.reduceAdd] at hF hR hK ⊢
      obtain ⟨r23, -⟩ := hR
      generalize vs 23 = x23 at *
      subst r23
      go_simp
      exact hK _ _ _ hI (Step.refl hI) rfl
    · intro vs g w2 hI hF hR K hK
      simp only [Facts, fill, Act.put, z1, z2, z3, z4, z5, Nat.reduceAdd] at hF hR hK ⊢
      obtain ⟨r23, r24, r25, r26, -⟩ := hR
      generalize vs 23 = x23, vs 24 = x24, vs 25 = x25, vs 26 = x26 at *
      subst r23 r24 r25 r26
      go_simp
      exact hK _ _ _ hI (Step.refl hI) rfl
    · intro vs g w2 hI hF hR K hK
      simp only [Facts, fill, Act.put, z1, z2, z3, z4, z5, Nat.reduceAdd] at hF hR hK ⊢
      obtain ⟨r23, r27, -⟩ := hR
      generalize vs 23 = x23, vs 27 = x27 at *
      subst r23 r27
      go_simp
      exact hK _ _ _ hI (Step.refl hI) rfl
    · intro vs g w2 hI hF hR K hK
      simp only [Facts, fill, Act.put, z1, z2, z3, z4, z5, Nat.reduceAdd] at hF hR hK ⊢
      obtain ⟨r28, -⟩ := hR
      generalize vs 28 = x28 at *
      subst r28
      go_simp
      exact hK _ _ _ hI (Step.refl hI) rfl
  case fin =>
    intro vs g wR1 hI hR
    have r29 := hR 29 (by decide)
    simp only [fill, Act.put, z1, z2, z3, z4, z5] at r29 ⊢
    clear hR
    generalize vs 29 = x29 at *
    have C0_R1_0 := Lib.hid (hI.cell C0_W_0.out (by first | exact HO0 | exact HO1 | exact HO2 | exact HO3 | assumption))
    have C0_R1_1 := Lib.hid (hI.cell C0_W_1.out (by first | exact HO0 | exact HO1 | exact HO2 | exact HO3 | assumption))
    have C1_R1_0 := Lib.hid (hI.cell C1_W_0.out (by first | exact HO0 | exact HO1 | exact HO2 | exact HO3 | assumption))
    have C1_R1_1 := Lib.hid (hI.cell C1_W_1.out (by first | exact HO0 | exact HO1 | exact HO2 | exact HO3 | assumption))
    have C2_R1_0 := Lib.hid (hI.cell C2_W_0.out (by first | exact HO0 | exact HO1 | exact HO2 | exact HO3 | assumption))
    have C2_R1_1 := Lib.hid (hI.cell C2_W_1.out (by first | exact HO0 | exact HO1 | exact HO2 | exact HO3 | assumption))
    have C3_R1_0 := Lib.hid (hI.cell C3_W_0.out (by first | exact HO0 | exact HO1 | exact HO2 | exact HO3 | assumption))
    have C3_R1_1 := Lib.hid (hI.cell C3_W_1.out (by first | exact HO0 | exact HO1 | exact HO2 | exact HO3 | assumption))
    subst r29
    have hBR1 := hI.below
    have HCR1 := hI.next HOK
    clear hI
    go_wp2
    go_ret
    exact ⟨_, rfl, rfl, hBR1⟩
set_option maxRecDepth 100000 in
set_option maxHeartbeats 4000000 in
theorem gRef8MeetFFT {c0 : Ctx} {g0 : Gh} {w : World} {xa ya xb yb xc yc xd yd : Int} (hI0 : RInv c0 g0 w) (sxa : S xa) (sya : S ya) (sxb : S xb) (syb : S yb) (sxc : S xc) (syc : S yc) (sxd : S xd) (syd : S yd) (h0 : crossB xa ya xb yb xc yc xd yd = false) (h1 : contB xa ya xb yb xc yc = false) (h2 : contB xa ya xb yb xd yd = true) :
    Calls Tryd.prog 18 #[.agg #[.int .i64 xa, .int .i64 ya], .agg #[.int .i64 xb, .int .i64 yb], .agg #[.int .i64 xc, .int .i64 yc], .agg #[.int .i64 xd, .int .i64 yd]] w (Gives (fun v _ _ => v = .bool true) g0 w) := by
  have H0 := Lib.hid h0
  have H1 := Lib.hid h1
  have H2 := Lib.hid h2
  clear h0 h1 h2
  obtain ⟨W, hW⟩ : ∃ W, W = (((w.alloc (.cells #[.int .i64 xa, .int .i64 ya] 28)).alloc (.cells #[.int .i64 xb, .int .i64 yb] 28)).alloc (.cells #[.int .i64 xc, .int .i64 yc] 28)).alloc (.cells #[.int .i64 xd, .int .i64 yd] 28) := ⟨_, rfl⟩
  have hb0 : Below w.heap.size w W := by rw [hW]; exact (((((Below.refl _ _).alloc (Nat.le_refl _) _).alloc (by simp) _).alloc (by simp; omega) _).alloc (by simp; omega) _)
  have HOK := Ctx.ok_lift0 hI0 hb0
  have C0_W_0 := Lib.hid (show W.cell? ⟨w.heap.size, 0, none⟩ = some (.int .i64 xa) by rw [hW]; simp [go_sem])
  have C0_W_1 := Lib.hid (show W.cell? ⟨w.heap.size, 1, none⟩ = some (.int .i64 ya) by rw [hW]; simp [go_sem])
  have HO0 : Off (lift0 g0) (w.heap.size) := lift0_off (hI0.offs _ (by omega))
  have C1_W_0 := Lib.hid (show W.cell? ⟨w.heap.size + 1, 0, none⟩ = some (.int .i64 xb) by rw [hW]; simp [go_sem])
  have C1_W_1 := Lib.hid (show W.cell? ⟨w.heap.size + 1, 1, none⟩ = some (.int .i64 yb) by rw [hW]; simp [go_sem])
  have HO1 : Off (lift0 g0) (w.heap.size + 1) := lift0_off (hI0.offs _ (by omega))
  have C2_W_0 := Lib.hid (show W.cell? ⟨w.heap.size + 1 + 1, 0, none⟩ = some (.int .i64 xc) by rw [hW]; simp [go_sem])
  have C2_W_1 := Lib.hid (show W.cell? ⟨w.heap.size + 1 + 1, 1, none⟩ = some (.int .i64 yc) by rw [hW]; simp [go_sem])
  have HO2 : Off (lift0 g0) (w.heap.size + 1 + 1) := lift0_off (hI0.offs _ (by omega))
  have C3_W_0 := Lib.hid (show W.cell? ⟨w.heap.size + 1 + 1 + 1, 0, none⟩ = some (.int .i64 xd) by rw [hW]; simp [go_sem])
  have C3_W_1 := Lib.hid (show W.cell? ⟨w.heap.size + 1 + 1 + 1, 1, none⟩ = some (.int .i64 yd) by rw [hW]; simp [go_sem])
  have HO3 : Off (lift0 g0) (w.heap.size + 1 + 1 + 1) := lift0_off (hI0.offs _ (by omega))
  have HW := Lib.hid hW
  clear hW
  go_enter Tryd.func18, Tryd.ntmps18
  go_upto_region 1 with (fail)
  rw [← HW.out]
  refine box_plan0 (c := ⟨w, W, (lift0 g0)⟩) HOK [[], [], [], [], [(9, 0), (10, 1), (11, 2), (12, 3)], [(13, 4)], [(14, 5)], [(14, 5)], [(14, 5)], [(14, 5), (15, 6), (16, 7), (17, 8)], [(14, 5), (18, 9)], [(19, 10)], [(20, 11)], [(20, 11)], [(20, 11)], [(20, 11), (21, 12), (22, 13), (23, 14)], [(20, 11), (24, 15)], [(25, 16)], [(26, 17)], [(26, 17)], [(26, 17)], [(26, 17), (27, 18), (28, 19), (29, 20)], [(26, 17), (30, 21)], [(31, 22)], [(32, 23)], [(32, 23)], [(32, 23)], [(32, 23), (33, 24), (34, 25), (35, 26)], [(32, 23), (36, 27)], [(37, 28)]] [(9, 0), (10, 1), (11, 2), (12, 3), (13, 4), (14, 5), (15, 6), (16, 7), (17, 8), (18, 9), (19, 10), (20, 11), (21, 12), (22, 13), (23, 14), (24, 15), (25, 16), (26, 17), (27, 18), (28, 19), (29, 20), (30, 21), (31, 22), (32, 23), (33, 24), (34, 25), (35, 26), (36, 27), (37, 28), (8, 29)] [
      (fun v _ _ => v = .agg #[.int .i64 xa, .int .i64 ya]),
      (fun v _ _ => v = .agg #[.int .i64 xb, .int .i64 yb]),
      (fun v _ _ => v = .agg #[.int .i64 xc, .int .i64 yc]),
      (fun v _ _ => v = .agg #[.int .i64 xd, .int .i64 yd]),
      (fun v _ _ => v = .bool false),
      (fun v _ _ => v = .bool false),
      (fun v _ _ => v = .agg #[.int .i64 xa, .int .i64 ya]),
      (fun v _ _ => v = .agg #[.int .i64 xb, .int .i64 yb]),
      (fun v _ _ => v = .agg #[.int .i64 xc, .int .i64 yc]),
      (fun v _ _ => v = .bool false),
      (fun v _ _ => v = .bool false),
      (fun v _ _ => v = .bool false),
      (fun v _ _ => v = .agg #[.int .i64 xa, .int .i64 ya]),
      (fun v _ _ => v = .agg #[.int .i64 xb, .int .i64 yb]),
      (fun v _ _ => v = .agg #[.int .i64 xd, .int .i64 yd]),
      (fun v _ _ => v = .bool true),
      (fun v _ _ => v = .bool true),
      (fun v _ _ => v = .bool true),
      (fun v _ _ => v = undef),
      (fun v _ _ => v = undef),
      (fun v _ _ => v = undef),
      (fun v _ _ => v = undef),
      (fun v _ _ => v = .bool true),
      (fun v _ _ => v = .bool true),
      (fun v _ _ => v = undef),
      (fun v _ _ => v = undef),
      (fun v _ _ => v = undef),
      (fun v _ _ => v = undef),
      (fun v _ _ => v = .bool true),
      (fun v _ _ => v = .bool true)
    ] (fun _ => none) (by kernel_rfl) (by kernel_rfl) ⟨stab_eq, stab_eq, stab_eq, stab_eq, stab_eq, stab_eq, stab_eq, stab_eq, stab_eq, stab_eq, stab_eq, stab_eq, stab_eq, stab_eq, stab_eq, stab_eq, stab_eq, stab_eq, stab_eq, stab_eq, stab_eq, stab_eq, stab_eq, stab_eq, stab_eq, stab_eq, stab_eq, stab_eq, stab_eq, stab_eq, trivial⟩ ?steps ?fin
  case steps =>
    refine ⟨?_, ?_, ?_, ?_, ?_, ?_, ?_, ?_, ?_, ?_, ?_, ?_, ?_, ?_, ?_, ?_, ?_, ?_, ?_, ?_, ?_, ?_, ?_, ?_, ?_, ?_, ?_, ?_, ?_, ?_, trivial⟩
    · intro vs g w2 hI hF hR K hK
      simp only [Facts, fill, Act.put, z1, z2, z3, z4, z5, Nat.reduceAdd] at hF hR hK ⊢
      have k0 := hI.cell C0_W_0.out (by first | exact HO0 | exact HO1 | exact HO2 | exact HO3 | assumption)
      have k1 := hI.cell C0_W_1.out (by first | exact HO0 | exact HO1 | exact HO2 | exact HO3 | assumption)
      go_simp
      exact hK _ _ _ hI (Step.refl hI) rfl
    · intro vs g w2 hI hF hR K hK
      simp only [Facts, fill, Act.put, z1, z2, z3, z4, z5, Nat.reduceAdd] at hF hR hK ⊢
      have k0 := hI.cell C1_W_0.out (by first | exact HO0 | exact HO1 | exact HO2 | exact HO3 | assumption)
      have k1 := hI.cell C1_W_1.out (by first | exact HO0 | exact HO1 | exact HO2 | exact HO3 | assumption)
      go_simp
      exact hK _ _ _ hI (Step.refl hI) rfl
    · intro vs g w2 hI hF hR K hK
      simp only [Facts, fill, Act.put, z1, z2, z3, z4, z5, Nat.reduceAdd] at hF hR hK ⊢
      have k0 := hI.cell C2_W_0.out (by first | exact HO0 | exact HO1 | exact HO2 | exact HO3 | assumption)
      have k1 := hI.cell C2_W_1.out (by first | exact HO0 | exact HO1 | exact HO2 | exact HO3 | assumption)
      go_simp
      exact hK _ _ _ hI (Step.refl hI) rfl
    · intro vs g w2 hI hF hR K hK
      simp only [Facts, fill, Act.put, z1, z2, z3, z4, z5, Nat.reduceAdd] at hF hR hK ⊢
      have k0 := hI.cell C3_W_0.out (by first | exact HO0 | exact HO1 | exact HO2 | exact HO3 | assumption)
      have k1 := hI.cell C3_W_1.out (by first | exact HO0 | exact HO1 | exact HO2 | exact HO3 | assumption)
      go_simp
      exact hK _ _ _ hI (Step.refl hI) rfl
    · intro vs g w2 hI hF hR K hK
      simp only [Facts, fill, Act.put, z1, z2, z3, z4, z5, Nat.reduceAdd] at hF hR hK ⊢
      obtain ⟨r0, r1, r2, r3, -⟩ := hR
      generalize vs 0 = x0, vs 1 = x1, vs 2 = x2, vs 3 = x3 at *
      subst r0 r1 r2 r3
      go_simp
      refine (gRef8CrossesR hI sxa sya sxb syb sxc syc sxd syd H0.out).mono ?_
      rintro e w3 ⟨v3, rfl, hv, hb⟩
      exact hK _ _ _ (hI.call hb) (Step.call hI hb) hv
    · intro vs g w2 hI hF hR K hK
      simp only [Facts, fill, Act.put, z1, z2, z3, z4, z5, Nat.reduceAdd] at hF hR hK ⊢
      obtain ⟨r4, -⟩ := hR
      generalize vs 4 = x4 at *
      subst r4
      go_simp
      exact hK _ _ _ hI (Step.refl hI) rfl
    · intro vs g w2 hI hF hR K hK
      simp only [Facts, fill, Act.put, z1, z2, z3, z4, z5, Nat.reduceAdd] at hF hR hK ⊢
      obtain ⟨r5, -⟩ := hR
      generalize vs 5 = x5 at *
      subst r5
      have k0 := hI.cell C0_W_0.out (by first | exact HO0 | exact HO1 | exact HO2 | exact HO3 | assumption)
      have k1 := hI.cell C0_W_1.out (by first | exact HO0 | exact HO1 | exact HO2 | exact HO3 | assumption)
      go_simp
      exact hK _ _ _ hI (Step.refl hI) rfl
    · intro vs g w2 hI hF hR K hK
      simp only [Facts, fill, Act.put, z1, z2, z3, z4, z5, Nat.reduceAdd] at hF hR hK ⊢
      obtain ⟨r5, -⟩ := hR
      generalize vs 5 = x5 at *
      subst r5
      have k0 := hI.cell C1_W_0.out (by first | exact HO0 | exact HO1 | exact HO2 | exact HO3 | assumption)
      have k1 := hI.cell C1_W_1.out (by first | exact HO0 | exact HO1 | exact HO2 | exact HO3 | assumption)
      go_simp
      exact hK _ _ _ hI (Step.refl hI) rfl
    · intro vs g w2 hI hF hR K hK
      simp only [Facts, fill, Act.put, z1, z2, z3, z4, z5, Nat.reduceAdd] at hF hR hK ⊢
      obtain ⟨r5, -⟩ := hR
      generalize vs 5 = x5 at *
      subst r5
      have k0 := hI.cell C2_W_0.out (by first | exact HO0 | exact HO1 | exact HO2 | exact HO3 | assumption)
      have k1 := hI.cell C2_W_1.out (by first | exact HO0 | exact HO1 | exact HO2 | exact HO3 | assumption)
      go_simp
      exact hK _ _ _ hI (Step.refl hI) rfl
    · intro vs g w2 hI hF hR K hK
      simp only [Facts, fill, Act.put, z1, z2, z3, z4, z5, Nat.reduceAdd] at hF hR hK ⊢
      obtain ⟨r5, r6, r7, r8, -⟩ := hR
      generalize vs 5 = x5, vs 6 = x6, vs 7 = x7, vs 8 = x8 at *
      subst r5 r6 r7 r8
      go_simp
      refine (gRef8ContainsR hI sxa sya sxb syb sxc syc H1.out).mono ?_
      rintro e w3 ⟨v3, rfl, hv, hb⟩
      exact hK _ _ _ (hI.call hb) (Step.call hI hb) hv
    · intro vs g w2 hI hF hR K hK
      simp only [Facts, fill, Act.put, z1, z2, z3, z4, z5, Nat.reduceAdd] at hF hR hK ⊢
      obtain ⟨r5, r9, -⟩ := hR
      generalize vs 5 = x5, vs 9 = x9 at *
      subst r5 r9
      go_simp
      exact hK _ _ _ hI (Step.refl hI) rfl
    · intro vs g w2 hI hF hR K hK
      simp only [Facts, fill, Act.put, z1, z2, z3, z4, z5, Nat.reduceAdd] at hF hR hK ⊢
      obtain ⟨r10, -⟩ := hR
      generalize vs 10 = x10 at *
      subst r10
      go_simp
      exact hK _ _ _ hI (Step.refl hI) rfl
    · intro vs g w2 hI hF hR K hK
      simp only [Facts, fill, Act.put, z1, z2, z3, z4, z5, Nat.reduceAdd] at hF hR hK ⊢
      obtain ⟨r11, -⟩ := hR
      generalize vs 11 = x11 at *
      subst r11
      have k0 := hI.cell C0_W_0.out (by first | exact HO0 | exact HO1 | exact HO2 | exact HO3 | assumption)
      have k1 := hI.cell C0_W_1.out (by first | exact HO0 | exact HO1 | exact HO2 | exact HO3 | assumption)
      go_simp
      exact hK _ _ _ hI (Step.refl hI) rfl
    · intro vs g w2 hI hF hR K hK
      simp only [Facts, fill, Act.put, z1, z2, z3, z4, z5, Nat.reduceAdd] at hF hR hK ⊢
      obtain ⟨r11, -⟩ := hR
      generalize vs 11 = x11 at *
      subst r11
      have k0 := hI.cell C1_W_0.out (by first | exact HO0 | exact HO1 | exact HO2 | exact HO3 | assumption)
      have k1 := hI.cell C1_W_1.out (by first | exact HO0 | exact HO1 | exact HO2 | exact HO3 | assumption)
      go_simp
      exact hK _ _ _ hI (Step.refl hI) rfl
    · intro vs g w2 hI hF hR K hK
      simp only [Facts, fill, Act.put, z1, z2, z3, z4, z5, Nat.reduceAdd] at hF hR hK ⊢
      obtain ⟨r11, -⟩ := hR
      generalize vs 11 = x11 at *
      subst r11
      have k0 := hI.cell C3_W_0.out (by first | exact HO0 | exact HO1 | exact HO2 | exact HO3 | assumption)
      have k1 := hI.cell C3_W_1.out (by first | exact HO0 | exact HO1 | exact HO2 | exact HO3 | assumption)
      go_simp
      exact hK _ _ _ hI (Step.refl hI) rfl
    · intro vs g w2 hI hF hR K hK
      simp only [Facts, fill, Act.put, z1, z2, z3, z4, z5, Nat.reduceAdd] at hF hR hK ⊢
      obtain ⟨r11, r12, r13, r14, -⟩ := hR
      generalize vs 11 = x11, vs 12 = x12, vs 13 = x13, vs 14 = x14 at *
      subst r11 r12 r13 r14
      go_simp
      refine (gRef8ContainsR hI sxa sya sxb syb sxd syd H2.out).mono ?_
      rintro e w3 ⟨v3, rfl, hv, hb⟩
      exact hK _ _ _ (hI.call hb) (Step.call hI hb) hv
    · intro vs g w2 hI hF hR K hK
      simp only [Facts, fill, Act.put, z1, z2, z3, z4, z5, Nat.reduceAdd] at hF hR hK ⊢
      obtain ⟨r11, r15, -⟩ := hR
      generalize vs 11 = x11, vs 15 = x15 at *
      subst r11 r15
      go_simp
      exact hK _ _ _ hI (Step.refl hI) rfl
    · intro vs g w2 hI hF hR K hK
      simp only [Facts, fill, Act.put, z1, z2, z3, z4, z5, Nat.reduceAdd] at hF hR hK ⊢
      obtain ⟨r16, -⟩ := hR
      generalize vs 16 = x16 at *
      subst r16
      go_simp
      exact hK _ _ _ hI (Step.refl hI) rfl
    · intro vs g w2 hI hF hR K hK
      simp only [Facts, fill, Act.put, z1, z2, z3, z4, z5, Nat.reduceAdd] at hF hR hK ⊢
      obtain ⟨r17, -⟩ := hR
      generalize vs 17 = x17 at *
      subst r17
      go_simp
      exact hK _ _ _ hI (Step.refl hI) rfl
    · intro vs g w2 hI hF hR K hK
      simp only [Facts, fill, Act.put, z1, z2, z3, z4, z5, Nat.reduceAdd] at hF hR hK ⊢
      obtain ⟨r17, -⟩ := hR
      generalize vs 17 = x17 at *
      subst r17
      go_simp
      exact hK _ _ _ hI (Step.refl hI) rfl
    · intro vs g w2 hI hF hR K hK
      simp only [Facts, fill, Act.put, z1, z2, z3, z4, z5, Nat.reduceAdd] at hF hR hK ⊢
      obtain ⟨r17, -⟩ := hR
      generalize vs 17 = x17 at *
      subst r17
      go_simp
      exact hK _ _ _ hI (Step.refl hI) rfl
    · intro vs g w2 hI hF hR K hK
      simp only [Facts, fill, Act.put, z1, z2, z3, z4, z5, Nat.reduceAdd] at hF hR hK ⊢
      obtain ⟨r17, r18, r19, r20, -⟩ := hR
      generalize vs 17 = x17, vs 18 = x18, vs 19 = x19, vs 20 = x20 at *
      subst r17 r18 r19 r20
      go_simp
      exact hK _ _ _ hI (Step.refl hI) rfl
    · intro vs g w2 hI hF hR K hK
      simp only [Facts, fill, Act.put, z1, z2, z3, z4, z5, Nat.reduceAdd] at hF hR hK ⊢
      obtain ⟨r17, r21, -⟩ := hR
      generalize vs 17 = x17, vs 21 = x21 at *
      subst r17 r21
      go_simp
      exact hK _ _ _ hI (Step.refl hI) rfl
    · intro vs g w2 hI hF hR K hK
      simp only [Facts, fill, Act.put, z1, z2, z3, z4, z5, Nat.reduceAdd] at hF hR hK ⊢
      obtain ⟨r22, -⟩ := hR
      generalize vs 22 = x22 at *
      subst r22
      go_simp
      exact hK _ _ _ hI (Step.refl hI) rfl
    · intro vs g w2 hI hF hR K hK
      simp only [Facts, fill, Act.put, z1, z2, z3, z4, z5, Nat.reduceAdd] at hF hR hK ⊢
      obtain ⟨r23, -⟩ := hR
      generalize vs 23 = x23 at *
      subst r23
      go_simp
      exact hK _ _ _ hI (Step.refl hI) rfl
    · intro vs g w2 hI hF hR K hK
      simp only [Facts, fill, Act.put, z1, z2, z3, z4, z5, Nat.reduceAdd] at hF hR hK ⊢
      obtain ⟨r23, -⟩ := hR
      generalize vs 23 = x23 at *
      subst r23
      go_simp
      exact hK _ _ _ hI (Step.refl hI) rfl
    · intro vs g w2 hI hF hR K hK
      simp only [Facts, fill, Act.put, z1, z2, z3, z4, z5, Nat.reduceAdd] at hF hR hK ⊢
      obtain ⟨r23, -⟩ := hR
      generalize vs 23 = x23 at *
      subst r23
      go_simp
      exact hK _ _ _ hI (Step.refl hI) rfl
    · intro vs g w2 hI hF hR K hK
      simp only [Facts, fill, Act.put, z1, z2, z3, z4, z5, Nat.reduceAdd] at hF hR hK ⊢
      obtain ⟨r23, r24, r25, r26, -⟩ := hR
      generalize vs 23 = x23, vs 24 = x24, vs 25 = x25, vs 26 = x26 at *
      subst r23 r24 r25 r26
      go_simp
      exact hK _ _ _ hI (Step.refl hI) rfl
    · intro vs g w2 hI hF hR K hK
      simp only [Facts, fill, Act.put, z1, z2, z3, z4, z5, Nat.reduceAdd] at hF hR hK ⊢
      obtain ⟨r23, r27, -⟩ := hR
      generalize vs 23 = x23, vs 27 = x27 at *
      subst r23 r27
      go_simp
      exact hK _ _ _ hI (Step.refl hI) rfl
    · intro vs g w2 hI hF hR K hK
      simp only [Facts, fill, Act.put, z1, z2, z3, z4, z5, Nat.reduceAdd] at hF hR hK ⊢
      obtain ⟨r28, -⟩ := hR
      generalize vs 28 = x28 at *
      subst r28
      go_simp
      exact hK _ _ _ hI (Step.refl hI) rfl
  case fin =>
    intro vs g wR1 hI hR
    have r29 := hR 29 (by decide)
    simp only [fill, Act.put, z1, z2, z3, z4, z5] at r29 ⊢
    clear hR
    generalize vs 29 = x29 at *
    have C0_R1_0 := Lib.hid (hI.cell C0_W_0.out (by first | exact HO0 | exact HO1 | exact HO2 | exact HO3 | assumption))
    have C0_R1_1 := Lib.hid (hI.cell C0_W_1.out (by first | exact HO0 | exact HO1 | exact HO2 | exact HO3 | assumption))
    have C1_R1_0 := Lib.hid (hI.cell C1_W_0.out (by first | exact HO0 | exact HO1 | exact HO2 | exact HO3 | assumption))
    have C1_R1_1 := Lib.hid (hI.cell C1_W_1.out (by first | exact HO0 | exact HO1 | exact HO2 | exact HO3 | assumption))
    have C2_R1_0 := Lib.hid (hI.cell C2_W_0.out (by first | exact HO0 | exact HO1 | exact HO2 | exact HO3 | assumption))
    have C2_R1_1 := Lib.hid (hI.cell C2_W_1.out (by first | exact HO0 | exact HO1 | exact HO2 | exact HO3 | assumption))
    have C3_R1_0 := Lib.hid (hI.cell C3_W_0.out (by first | exact HO0 | exact HO1 | exact HO2 | exact HO3 | assumption))
    have C3_R1_1 := Lib.hid (hI.cell C3_W_1.out (by first | exact HO0 | exact HO1 | exact HO2 | exact HO3 | assumption))
    subst r29
    have hBR1 := hI.below
    have HCR1 := hI.next HOK
    clear hI
    go_wp2
    go_ret
    exact ⟨_, rfl, rfl, hBR1⟩
set_option maxRecDepth 100000 in
set_option maxHeartbeats 4000000 in
theorem gRef8MeetFFFT {c0 : Ctx} {g0 : Gh} {w : World} {xa ya xb yb xc yc xd yd : Int} (hI0 : RInv c0 g0 w) (sxa : S xa) (sya : S ya) (sxb : S xb) (syb : S yb) (sxc : S xc) (syc : S yc) (sxd : S xd) (syd : S yd) (h0 : crossB xa ya xb yb xc yc xd yd = false) (h1 : contB xa ya xb yb xc yc = false) (h2 : contB xa ya xb yb xd yd = false) (h3 : contB xc yc xd yd xa ya = true) :
    Calls Tryd.prog 18 #[.agg #[.int .i64 xa, .int .i64 ya], .agg #[.int .i64 xb, .int .i64 yb], .agg #[.int .i64 xc, .int .i64 yc], .agg #[.int .i64 xd, .int .i64 yd]] w (Gives (fun v _ _ => v = .bool true) g0 w) := by
  have H0 := Lib.hid h0
  have H1 := Lib.hid h1
  have H2 := Lib.hid h2
  have H3 := Lib.hid h3
  clear h0 h1 h2 h3
  obtain ⟨W, hW⟩ : ∃ W, W = (((w.alloc (.cells #[.int .i64 xa, .int .i64 ya] 28)).alloc (.cells #[.int .i64 xb, .int .i64 yb] 28)).alloc (.cells #[.int .i64 xc, .int .i64 yc] 28)).alloc (.cells #[.int .i64 xd, .int .i64 yd] 28) := ⟨_, rfl⟩
  have hb0 : Below w.heap.size w W := by rw [hW]; exact (((((Below.refl _ _).alloc (Nat.le_refl _) _).alloc (by simp) _).alloc (by simp; omega) _).alloc (by simp; omega) _)
  have HOK := Ctx.ok_lift0 hI0 hb0
  have C0_W_0 := Lib.hid (show W.cell? ⟨w.heap.size, 0, none⟩ = some (.int .i64 xa) by rw [hW]; simp [go_sem])
  have C0_W_1 := Lib.hid (show W.cell? ⟨w.heap.size, 1, none⟩ = some (.int .i64 ya) by rw [hW]; simp [go_sem])
  have HO0 : Off (lift0 g0) (w.heap.size) := lift0_off (hI0.offs _ (by omega))
  have C1_W_0 := Lib.hid (show W.cell? ⟨w.heap.size + 1, 0, none⟩ = some (.int .i64 xb) by rw [hW]; simp [go_sem])
  have C1_W_1 := Lib.hid (show W.cell? ⟨w.heap.size + 1, 1, none⟩ = some (.int .i64 yb) by rw [hW]; simp [go_sem])
  have HO1 : Off (lift0 g0) (w.heap.size + 1) := lift0_off (hI0.offs _ (by omega))
  have C2_W_0 := Lib.hid (show W.cell? ⟨w.heap.size + 1 + 1, 0, none⟩ = some (.int .i64 xc) by rw [hW]; simp [go_sem])
  have C2_W_1 := Lib.hid (show W.cell? ⟨w.heap.size + 1 + 1, 1, none⟩ = some (.int .i64 yc) by rw [hW]; simp [go_sem])
  have HO2 : Off (lift0 g0) (w.heap.size + 1 + 1) := lift0_off (hI0.offs _ (by omega))
  have C3_W_0 := Lib.hid (show W.cell? ⟨w.heap.size + 1 + 1 + 1, 0, none⟩ = some (.int .i64 xd) by rw [hW]; simp [go_sem])
  have C3_W_1 := Lib.hid (show W.cell? ⟨w.heap.size + 1 + 1 + 1, 1, none⟩ = some (.int .i64 yd) by rw [hW]; simp [go_sem])
  have HO3 : Off (lift0 g0) (w.heap.size + 1 + 1 + 1) := lift0_off (hI0.offs _ (by omega))
  have HW := Lib.hid hW
  clear hW
  go_enter Tryd.func18, Tryd.ntmps18
  go_upto_region 1 with (fail)
  rw [← HW.out]
  refine box_plan0 (c := ⟨w, W, (lift0 g0)⟩) HOK [[], [], [], [], [(9, 0), (10, 1), (11, 2), (12, 3)], [(13, 4)], [(14, 5)], [(14, 5)], [(14, 5)], [(14, 5), (15, 6), (16, 7), (17, 8)], [(14, 5), (18, 9)], [(19, 10)], [(20, 11)], [(20, 11)], [(20, 11)], [(20, 11), (21, 12), (22, 13), (23, 14)], [(20, 11), (24, 15)], [(25, 16)], [(26, 17)], [(26, 17)], [(26, 17)], [(26, 17), (27, 18), (28, 19), (29, 20)], [(26, 17), (30, 21)], [(31, 22)], [(32, 23)], [(32, 23)], [(32, 23)], [(32, 23), (33, 24), (34, 25), (35, 26)], [(32, 23), (36, 27)], [(37, 28)]] [(9, 0), (10, 1), (11, 2), (12, 3), (13, 4), (14, 5), (15, 6), (16, 7), (17, 8), (18, 9), (19, 10), (20, 11), (21, 12), (22, 13), (23, 14), (24, 15), (25, 16), (26, 17), (27, 18), (28, 19), (29, 20), (30, 21), (31, 22), (32, 23), (33, 24), (34, 25), (35, 26), (36, 27), (37, 28), (8, 29)] [
      (fun v _ _ => v = .agg #[.int .i64 xa, .int .i64 ya]),
      (fun v _ _ => v = .agg #[.int .i64 xb, .int .i64 yb]),
      (fun v _ _ => v = .agg #[.int .i64 xc, .int .i64 yc]),
      (fun v _ _ => v = .agg #[.int .i64 xd, .int .i64 yd]),
      (fun v _ _ => v = .bool false),
      (fun v _ _ => v = .bool false),
      (fun v _ _ => v = .agg #[.int .i64 xa, .int .i64 ya]),
      (fun v _ _ => v = .agg #[.int .i64 xb, .int .i64 yb]),
      (fun v _ _ => v = .agg #[.int .i64 xc, .int .i64 yc]),
      (fun v _ _ => v = .bool false),
      (fun v _ _ => v = .bool false),
      (fun v _ _ => v = .bool false),
      (fun v _ _ => v = .agg #[.int .i64 xa, .int .i64 ya]),
      (fun v _ _ => v = .agg #[.int .i64 xb, .int .i64 yb]),
      (fun v _ _ => v = .agg #[.int .i64 xd, .int .i64 yd]),
      (fun v _ _ => v = .bool false),
      (fun v _ _ => v = .bool false),
      (fun v _ _ => v = .bool false),
      (fun v _ _ => v = .agg #[.int .i64 xc, .int .i64 yc]),
      (fun v _ _ => v = .agg #[.int .i64 xd, .int .i64 yd]),
      (fun v _ _ => v = .agg #[.int .i64 xa, .int .i64 ya]),
      (fun v _ _ => v = .bool true),
      (fun v _ _ => v = .bool true),
      (fun v _ _ => v = .bool true),
      (fun v _ _ => v = undef),
      (fun v _ _ => v = undef),
      (fun v _ _ => v = undef),
      (fun v _ _ => v = undef),
      (fun v _ _ => v = .bool true),
      (fun v _ _ => v = .bool true)
    ] (fun _ => none) (by kernel_rfl) (by kernel_rfl) ⟨stab_eq, stab_eq, stab_eq, stab_eq, stab_eq, stab_eq, stab_eq, stab_eq, stab_eq, stab_eq, stab_eq, stab_eq, stab_eq, stab_eq, stab_eq, stab_eq, stab_eq, stab_eq, stab_eq, stab_eq, stab_eq, stab_eq, stab_eq, stab_eq, stab_eq, stab_eq, stab_eq, stab_eq, stab_eq, stab_eq, trivial⟩ ?steps ?fin
  case steps =>
    refine ⟨?_, ?_, ?_, ?_, ?_, ?_, ?_, ?_, ?_, ?_, ?_, ?_, ?_, ?_, ?_, ?_, ?_, ?_, ?_, ?_, ?_, ?_, ?_, ?_, ?_, ?_, ?_, ?_, ?_, ?_, trivial⟩
    · intro vs g w2 hI hF hR K hK
      simp only [Facts, fill, Act.put, z1, z2, z3, z4, z5, Nat.reduceAdd] at hF hR hK ⊢
      have k0 := hI.cell C0_W_0.out (by first | exact HO0 | exact HO1 | exact HO2 | exact HO3 | assumption)
      have k1 := hI.cell C0_W_1.out (by first | exact HO0 | exact HO1 | exact HO2 | exact HO3 | assumption)
      go_simp
      exact hK _ _ _ hI (Step.refl hI) rfl
    · intro vs g w2 hI hF hR K hK
      simp only [Facts, fill, Act.put, z1, z2, z3, z4, z5, Nat.reduceAdd] at hF hR hK ⊢
      have k0 := hI.cell C1_W_0.out (by first | exact HO0 | exact HO1 | exact HO2 | exact HO3 | assumption)
      have k1 := hI.cell C1_W_1.out (by first | exact HO0 | exact HO1 | exact HO2 | exact HO3 | assumption)
      go_simp
      exact hK _ _ _ hI (Step.refl hI) rfl
    · intro vs g w2 hI hF hR K hK
      simp only [Facts, fill, Act.put, z1, z2, z3, z4, z5, Nat.reduceAdd] at hF hR hK ⊢
      have k0 := hI.cell C2_W_0.out (by first | exact HO0 | exact HO1 | exact HO2 | exact HO3 | assumption)
      have k1 := hI.cell C2_W_1.out (by first | exact HO0 | exact HO1 | exact HO2 | exact HO3 | assumption)
      go_simp
      exact hK _ _ _ hI (Step.refl hI) rfl
    · intro vs g w2 hI hF hR K hK
      simp only [Facts, fill, Act.put, z1, z2, z3, z4, z5, Nat.reduceAdd] at hF hR hK ⊢
      have k0 := hI.cell C3_W_0.out (by first | exact HO0 | exact HO1 | exact HO2 | exact HO3 | assumption)
      have k1 := hI.cell C3_W_1.out (by first | exact HO0 | exact HO1 | exact HO2 | exact HO3 | assumption)
      go_simp
      exact hK _ _ _ hI (Step.refl hI) rfl
    · intro vs g w2 hI hF hR K hK
      simp only [Facts, fill, Act.put, z1, z2, z3, z4, z5, Nat.reduceAdd] at hF hR hK ⊢
      obtain ⟨r0, r1, r2, r3, -⟩ := hR
      generalize vs 0 = x0, vs 1 = x1, vs 2 = x2, vs 3 = x3 at *
      subst r0 r1 r2 r3
      go_simp
      refine (gRef8CrossesR hI sxa sya sxb syb sxc syc sxd syd H0.out).mono ?_
      rintro e w3 ⟨v3, rfl, hv, hb⟩
      exact hK _ _ _ (hI.call hb) (Step.call hI hb) hv
    · intro vs g w2 hI hF hR K hK
      simp only [Facts, fill, Act.put, z1, z2, z3, z4, z5, Nat.reduceAdd] at hF hR hK ⊢
      obtain ⟨r4, -⟩ := hR
      generalize vs 4 = x4 at *
      subst r4
      go_simp
      exact hK _ _ _ hI (Step.refl hI) rfl
    · intro vs g w2 hI hF hR K hK
      simp only [Facts, fill, Act.put, z1, z2, z3, z4, z5, Nat.reduceAdd] at hF hR hK ⊢
      obtain ⟨r5, -⟩ := hR
      generalize vs 5 = x5 at *
      subst r5
      have k0 := hI.cell C0_W_0.out (by first | exact HO0 | exact HO1 | exact HO2 | exact HO3 | assumption)
      have k1 := hI.cell C0_W_1.out (by first | exact HO0 | exact HO1 | exact HO2 | exact HO3 | assumption)
      go_simp
      exact hK _ _ _ hI (Step.refl hI) rfl
    · intro vs g w2 hI hF hR K hK
      simp only [Facts, fill, Act.put, z1, z2, z3, z4, z5, Nat.reduceAdd] at hF hR hK ⊢
      obtain ⟨r5, -⟩ := hR
      generalize vs 5 = x5 at *
      subst r5
      have k0 := hI.cell C1_W_0.out (by first | exact HO0 | exact HO1 | exact HO2 | exact HO3 | assumption)
      have k1 := hI.cell C1_W_1.out (by first | exact HO0 | exact HO1 | exact HO2 | exact HO3 | assumption)
      go_simp
      exact hK _ _ _ hI (Step.refl hI) rfl
    · intro vs g w2 hI hF hR K hK
      simp only [Facts, fill, Act.put, z1, z2, z3, z4, z5, Nat.reduceAdd] at hF hR hK ⊢
      obtain ⟨r5, -⟩ := hR
      generalize vs 5 = x5 at *
      subst r5
      have k0 := hI.cell C2_W_0.out (by first | exact HO0 | exact HO1 | exact HO2 | exact HO3 | assumption)
      have k1 := hI.cell C2_W_1.out (by first | exact HO0 | exact HO1 | exact HO2 | exact HO3 | assumption)
      go_simp
      exact hK _ _ _ hI (Step.refl hI) rfl
    · intro vs g w2 hI hF hR K hK
      simp only [Facts, fill, Act.put, z1, z2, z3, z4, z5, Nat.reduceAdd] at hF hR hK ⊢
      obtain ⟨r5, r6, r7, r8, -⟩ := hR
      generalize vs 5 = x5, vs 6 = x6, vs 7 = x7, vs 8 = x8 at *
      subst r5 r6 r7 r8
      go_simp
      refine (gRef8ContainsR hI sxa sya sxb syb sxc syc H1.out).mono ?_
      rintro e w3 ⟨v3, rfl, hv, hb⟩
      exact hK _ _ _ (hI.call hb) (Step.call hI hb) hv
    · intro vs g w2 hI hF hR K hK
      simp only [Facts, fill, Act.put, z1, z2, z3, z4, z5, Nat.reduceAdd] at hF hR hK ⊢
      obtain ⟨r5, r9, -⟩ := hR
      generalize vs 5 = x5, vs 9 = x9 at *
      subst r5 r9
      go_simp
      exact hK _ _ _ hI (Step.refl hI) rfl
    · intro vs g w2 hI hF hR K hK
      simp only [Facts, fill, Act.put, z1, z2, z3, z4, z5, Nat.reduceAdd] at hF hR hK ⊢
      obtain ⟨r10, -⟩ := hR
      generalize vs 10 = x10 at *
      subst r10
      go_simp
      exact hK _ _ _ hI (Step.refl hI) rfl
    · intro vs g w2 hI hF hR K hK
      simp only [Facts, fill, Act.put, z1, z2, z3, z4, z5, Nat.reduceAdd] at hF hR hK ⊢
      obtain ⟨r11, -⟩ := hR
      generalize vs 11 = x11 at *
      subst r11
      have k0 := hI.cell C0_W_0.out (by first | exact HO0 | exact HO1 | exact HO2 | exact HO3 | assumption)
      have k1 := hI.cell C0_W_1.out (by first | exact HO0 | exact HO1 | exact HO2 | exact HO3 | assumption)
      go_simp
      exact hK _ _ _ hI (Step.refl hI) rfl
    · intro vs g w2 hI hF hR K hK
      simp only [Facts, fill, Act.put, z1, z2, z3, z4, z5, Nat.reduceAdd] at hF hR hK ⊢
      obtain ⟨r11, -⟩ := hR
      generalize vs 11 = x11 at *
      subst r11
      have k0 := hI.cell C1_W_0.out (by first | exact HO0 | exact HO1 | exact HO2 | exact HO3 | assumption)
      have k1 := hI.cell C1_W_1.out (by first | exact HO0 | exact HO1 | exact HO2 | exact HO3 | assumption)
      go_simp
      exact hK _ _ _ hI (Step.refl hI) rfl
    · intro vs g w2 hI hF hR K hK
      simp only [Facts, fill, Act.put, z1, z2, z3, z4, z5, Nat.reduceAdd] at hF hR hK ⊢
      obtain ⟨r11, -⟩ := hR
      generalize vs 11 = x11 at *
      subst r11
      have k0 := hI.cell C3_W_0.out (by first | exact HO0 | exact HO1 | exact HO2 | exact HO3 | assumption)
      have k1 := hI.cell C3_W_1.out (by first | exact HO0 | exact HO1 | exact HO2 | exact HO3 | assumption)
      go_simp
      exact hK _ _ _ hI (Step.refl hI) rfl
    · intro vs g w2 hI hF hR K hK
      simp only [Facts, fill, Act.put, z1, z2, z3, z4, z5, Nat.reduceAdd] at hF hR hK ⊢
      obtain ⟨r11, r12, r13, r14, -⟩ := hR
      generalize vs 11 = x11, vs 12 = x12, vs 13 = x13, vs 14 = x14 at *
      subst r11 r12 r13 r14
      go_simp
      refine (gRef8ContainsR hI sxa sya sxb syb sxd syd H2.out).mono ?_
      rintro e w3 ⟨v3, rfl, hv, hb⟩
      exact hK _ _ _ (hI.call hb) (Step.call hI hb) hv
    · intro vs g w2 hI hF hR K hK
      simp only [Facts, fill, Act.put, z1, z2, z3, z4, z5, Nat.reduceAdd] at hF hR hK ⊢
      obtain ⟨r11, r15, -⟩ := hR
      generalize vs 11 = x11, vs 15 = x15 at *
      subst r11 r15
      go_simp
      exact hK _ _ _ hI (Step.refl hI) rfl
    · intro vs g w2 hI hF hR K hK
      simp only [Facts, fill, Act.put, z1, z2, z3, z4, z5, Nat.reduceAdd] at hF hR hK ⊢
      obtain ⟨r16, -⟩ := hR
      generalize vs 16 = x16 at *
      subst r16
      go_simp
      exact hK _ _ _ hI (Step.refl hI) rfl
    · intro vs g w2 hI hF hR K hK
      simp only [Facts, fill, Act.put, z1, z2, z3, z4, z5, Nat.reduceAdd] at hF hR hK ⊢
      obtain ⟨r17, -⟩ := hR
      generalize vs 17 = x17 at *
      subst r17
      have k0 := hI.cell C2_W_0.out (by first | exact HO0 | exact HO1 | exact HO2 | exact HO3 | assumption)
      have k1 := hI.cell C2_W_1.out (by first | exact HO0 | exact HO1 | exact HO2 | exact HO3 | assumption)
      go_simp
      exact hK _ _ _ hI (Step.refl hI) rfl
    · intro vs g w2 hI hF hR K hK
      simp only [Facts, fill, Act.put, z1, z2, z3, z4, z5, Nat.reduceAdd] at hF hR hK ⊢
      obtain ⟨r17, -⟩ := hR
      generalize vs 17 = x17 at *
      subst r17
      have k0 := hI.cell C3_W_0.out (by first | exact HO0 | exact HO1 | exact HO2 | exact HO3 | assumption)
      have k1 := hI.cell C3_W_1.out (by first | exact HO0 | exact HO1 | exact HO2 | exact HO3 | assumption)
      go_simp
      exact hK _ _ _ hI (Step.refl hI) rfl
    · intro vs g w2 hI hF hR K hK
      simp only [Facts, fill, Act.put, z1, z2, z3, z4, z5, Nat.reduceAdd] at hF hR hK ⊢
      obtain ⟨r17, -⟩ := hR
      generalize vs 17 = x17 at *
      subst r17
      have k0 := hI.cell C0_W_0.out (by first | exact HO0 | exact HO1 | exact HO2 | exact HO3 | assumption)
      have k1 := hI.cell C0_W_1.out (by first | exact HO0 | exact HO1 | exact HO2 | exact HO3 | assumption)
      go_simp
      exact hK _ _ _ hI (Step.refl hI) rfl
    · intro vs g w2 hI hF hR K hK
      simp only [Facts, fill, Act.put, z1, z2, z3, z4, z5, Nat.reduceAdd] at hF hR hK ⊢
      obtain ⟨r17, r18, r19, r20, -⟩ := hR
      generalize vs 17 = x17, vs 18 = x18, vs 19 = x19, vs 20 = x20 at *
      subst r17 r18 r19 r20
      go_simp
      refine (gRef8ContainsR hI sxc syc sxd syd sxa sya H3.out).mono ?_
      rintro e w3 ⟨v3, rfl, hv, hb⟩
      exact hK _ _ _ (hI.call hb) (Step.call hI hb) hv
    · intro vs g w2 hI hF hR K hK
      simp only [Facts, fill, Act.put, z1, z2, z3, z4, z5, Nat.reduceAdd] at hF hR hK ⊢
      obtain ⟨r17, r21, -⟩ := hR
      generalize vs 17 = x17, vs 21 = x21 at *
      subst r17 r21
      go_simp
      exact hK _ _ _ hI (Step.refl hI) rfl
    · intro vs g w2 hI hF hR K hK
      simp only [Facts, fill, Act.put, z1, z2, z3, z4, z5, Nat.reduceAdd] at hF hR hK ⊢
      obtain ⟨r22, -⟩ := hR
      generalize vs 22 = x22 at *
      subst r22
      go_simp
      exact hK _ _ _ hI (Step.refl hI) rfl
    · intro vs g w2 hI hF hR K hK
      simp only [Facts, fill, Act.put, z1, z2, z3, z4, z5, Nat.reduceAdd] at hF hR hK ⊢
      obtain ⟨r23, -⟩ := hR
      generalize vs 23 = x23 at *
      subst r23
      go_simp
      exact hK _ _ _ hI (Step.refl hI) rfl
    · intro vs g w2 hI hF hR K hK
      simp only [Facts, fill, Act.put, z1, z2, z3, z4, z5, Nat.reduceAdd] at hF hR hK ⊢
      obtain ⟨r23, -⟩ := hR
      generalize vs 23 = x23 at *
      subst r23
      go_simp
      exact hK _ _ _ hI (Step.refl hI) rfl
    · intro vs g w2 hI hF hR K hK
      simp only [Facts, fill, Act.put, z1, z2, z3, z4, z5, Nat.reduceAdd] at hF hR hK ⊢
      obtain ⟨r23, -⟩ := hR
      generalize vs 23 = x23 at *
      subst r23
      go_simp
      exact hK _ _ _ hI (Step.refl hI) rfl
    · intro vs g w2 hI hF hR K hK
      simp only [Facts, fill, Act.put, z1, z2, z3, z4, z5, Nat.reduceAdd] at hF hR hK ⊢
      obtain ⟨r23, r24, r25, r26, -⟩ := hR
      generalize vs 23 = x23, vs 24 = x24, vs 25 = x25, vs 26 = x26 at *
      subst r23 r24 r25 r26
      go_simp
      exact hK _ _ _ hI (Step.refl hI) rfl
    · intro vs g w2 hI hF hR K hK
      simp only [Facts, fill, Act.put, z1, z2, z3, z4, z5, Nat.reduceAdd] at hF hR hK ⊢
      obtain ⟨r23, r27, -⟩ := hR
      generalize vs 23 = x23, vs 27 = x27 at *
      subst r23 r27
      go_simp
      exact hK _ _ _ hI (Step.refl hI) rfl
    · intro vs g w2 hI hF hR K hK
      simp only [Facts, fill, Act.put, z1, z2, z3, z4, z5, Nat.reduceAdd] at hF hR hK ⊢
      obtain ⟨r28, -⟩ := hR
      generalize vs 28 = x28 at *
      subst r28
      go_simp
      exact hK _ _ _ hI (Step.refl hI) rfl
  case fin =>
    intro vs g wR1 hI hR
    have r29 := hR 29 (by decide)
    simp only [fill, Act.put, z1, z2, z3, z4, z5] at r29 ⊢
    clear hR
    generalize vs 29 = x29 at *
    have C0_R1_0 := Lib.hid (hI.cell C0_W_0.out (by first | exact HO0 | exact HO1 | exact HO2 | exact HO3 | assumption))
    have C0_R1_1 := Lib.hid (hI.cell C0_W_1.out (by first | exact HO0 | exact HO1 | exact HO2 | exact HO3 | assumption))
    have C1_R1_0 := Lib.hid (hI.cell C1_W_0.out (by first | exact HO0 | exact HO1 | exact HO2 | exact HO3 | assumption))
    have C1_R1_1 := Lib.hid (hI.cell C1_W_1.out (by first | exact HO0 | exact HO1 | exact HO2 | exact HO3 | assumption))
    have C2_R1_0 := Lib.hid (hI.cell C2_W_0.out (by first | exact HO0 | exact HO1 | exact HO2 | exact HO3 | assumption))
    have C2_R1_1 := Lib.hid (hI.cell C2_W_1.out (by first | exact HO0 | exact HO1 | exact HO2 | exact HO3 | assumption))
    have C3_R1_0 := Lib.hid (hI.cell C3_W_0.out (by first | exact HO0 | exact HO1 | exact HO2 | exact HO3 | assumption))
    have C3_R1_1 := Lib.hid (hI.cell C3_W_1.out (by first | exact HO0 | exact HO1 | exact HO2 | exact HO3 | assumption))
    subst r29
    have hBR1 := hI.below
    have HCR1 := hI.next HOK
    clear hI
    go_wp2
    go_ret
    exact ⟨_, rfl, rfl, hBR1⟩
set_option maxRecDepth 100000 in
set_option maxHeartbeats 4000000 in
theorem gRef8MeetFFFFT {c0 : Ctx} {g0 : Gh} {w : World} {xa ya xb yb xc yc xd yd : Int} (hI0 : RInv c0 g0 w) (sxa : S xa) (sya : S ya) (sxb : S xb) (syb : S yb) (sxc : S xc) (syc : S yc) (sxd : S xd) (syd : S yd) (h0 : crossB xa ya xb yb xc yc xd yd = false) (h1 : contB xa ya xb yb xc yc = false) (h2 : contB xa ya xb yb xd yd = false) (h3 : contB xc yc xd yd xa ya = false) (h4 : contB xc yc xd yd xb yb = true) :
    Calls Tryd.prog 18 #[.agg #[.int .i64 xa, .int .i64 ya], .agg #[.int .i64 xb, .int .i64 yb], .agg #[.int .i64 xc, .int .i64 yc], .agg #[.int .i64 xd, .int .i64 yd]] w (Gives (fun v _ _ => v = .bool true) g0 w) := by
  have H0 := Lib.hid h0
  have H1 := Lib.hid h1
  have H2 := Lib.hid h2
  have H3 := Lib.hid h3
  have H4 := Lib.hid h4
  clear h0 h1 h2 h3 h4
  obtain ⟨W, hW⟩ : ∃ W, W = (((w.alloc (.cells #[.int .i64 xa, .int .i64 ya] 28)).alloc (.cells #[.int .i64 xb, .int .i64 yb] 28)).alloc (.cells #[.int .i64 xc, .int .i64 yc] 28)).alloc (.cells #[.int .i64 xd, .int .i64 yd] 28) := ⟨_, rfl⟩
  have hb0 : Below w.heap.size w W := by rw [hW]; exact (((((Below.refl _ _).alloc (Nat.le_refl _) _).alloc (by simp) _).alloc (by simp; omega) _).alloc (by simp; omega) _)
  have HOK := Ctx.ok_lift0 hI0 hb0
  have C0_W_0 := Lib.hid (show W.cell? ⟨w.heap.size, 0, none⟩ = some (.int .i64 xa) by rw [hW]; simp [go_sem])
  have C0_W_1 := Lib.hid (show W.cell? ⟨w.heap.size, 1, none⟩ = some (.int .i64 ya) by rw [hW]; simp [go_sem])
  have HO0 : Off (lift0 g0) (w.heap.size) := lift0_off (hI0.offs _ (by omega))
  have C1_W_0 := Lib.hid (show W.cell? ⟨w.heap.size + 1, 0, none⟩ = some (.int .i64 xb) by rw [hW]; simp [go_sem])
  have C1_W_1 := Lib.hid (show W.cell? ⟨w.heap.size + 1, 1, none⟩ = some (.int .i64 yb) by rw [hW]; simp [go_sem])
  have HO1 : Off (lift0 g0) (w.heap.size + 1) := lift0_off (hI0.offs _ (by omega))
  have C2_W_0 := Lib.hid (show W.cell? ⟨w.heap.size + 1 + 1, 0, none⟩ = some (.int .i64 xc) by rw [hW]; simp [go_sem])
  have C2_W_1 := Lib.hid (show W.cell? ⟨w.heap.size + 1 + 1, 1, none⟩ = some (.int .i64 yc) by rw [hW]; simp [go_sem])
  have HO2 : Off (lift0 g0) (w.heap.size + 1 + 1) := lift0_off (hI0.offs _ (by omega))
  have C3_W_0 := Lib.hid (show W.cell? ⟨w.heap.size + 1 + 1 + 1, 0, none⟩ = some (.int .i64 xd) by rw [hW]; simp [go_sem])
  have C3_W_1 := Lib.hid (show W.cell? ⟨w.heap.size + 1 + 1 + 1, 1, none⟩ = some (.int .i64 yd) by rw [hW]; simp [go_sem])
  have HO3 : Off (lift0 g0) (w.heap.size + 1 + 1 + 1) := lift0_off (hI0.offs _ (by omega))
  have HW := Lib.hid hW
  clear hW
  go_enter Tryd.func18, Tryd.ntmps18
  go_upto_region 1 with (fail)
  rw [← HW.out]
  refine box_plan0 (c := ⟨w, W, (lift0 g0)⟩) HOK [[], [], [], [], [(9, 0), (10, 1), (11, 2), (12, 3)], [(13, 4)], [(14, 5)], [(14, 5)], [(14, 5)], [(14, 5), (15, 6), (16, 7), (17, 8)], [(14, 5), (18, 9)], [(19, 10)], [(20, 11)], [(20, 11)], [(20, 11)], [(20, 11), (21, 12), (22, 13), (23, 14)], [(20, 11), (24, 15)], [(25, 16)], [(26, 17)], [(26, 17)], [(26, 17)], [(26, 17), (27, 18), (28, 19), (29, 20)], [(26, 17), (30, 21)], [(31, 22)], [(32, 23)], [(32, 23)], [(32, 23)], [(32, 23), (33, 24), (34, 25), (35, 26)], [(32, 23), (36, 27)], [(37, 28)]] [(9, 0), (10, 1), (11, 2), (12, 3), (13, 4), (14, 5), (15, 6), (16, 7), (17, 8), (18, 9), (19, 10), (20, 11), (21, 12), (22, 13), (23, 14), (24, 15), (25, 16), (26, 17), (27, 18), (28, 19), (29, 20), (30, 21), (31, 22), (32, 23), (33, 24), (34, 25), (35, 26), (36, 27), (37, 28), (8, 29)] [
      (fun v _ _ => v = .agg #[.int .i64 xa, .int .i64 ya]),
      (fun v _ _ => v = .agg #[.int .i64 xb, .int .i64 yb]),
      (fun v _ _ => v = .agg #[.int .i64 xc, .int .i64 yc]),
      (fun v _ _ => v = .agg #[.int .i64 xd, .int .i64 yd]),
      (fun v _ _ => v = .bool false),
      (fun v _ _ => v = .bool false),
      (fun v _ _ => v = .agg #[.int .i64 xa, .int .i64 ya]),
      (fun v _ _ => v = .agg #[.int .i64 xb, .int .i64 yb]),
      (fun v _ _ => v = .agg #[.int .i64 xc, .int .i64 yc]),
      (fun v _ _ => v = .bool false),
      (fun v _ _ => v = .bool false),
      (fun v _ _ => v = .bool false),
      (fun v _ _ => v = .agg #[.int .i64 xa, .int .i64 ya]),
      (fun v _ _ => v = .agg #[.int .i64 xb, .int .i64 yb]),
      (fun v _ _ => v = .agg #[.int .i64 xd, .int .i64 yd]),
      (fun v _ _ => v = .bool false),
      (fun v _ _ => v = .bool false),
      (fun v _ _ => v = .bool false),
      (fun v _ _ => v = .agg #[.int .i64 xc, .int .i64 yc]),
      (fun v _ _ => v = .agg #[.int .i64 xd, .int .i64 yd]),
      (fun v _ _ => v = .agg #[.int .i64 xa, .int .i64 ya]),
      (fun v _ _ => v = .bool false),
      (fun v _ _ => v = .bool false),
      (fun v _ _ => v = .bool false),
      (fun v _ _ => v = .agg #[.int .i64 xc, .int .i64 yc]),
      (fun v _ _ => v = .agg #[.int .i64 xd, .int .i64 yd]),
      (fun v _ _ => v = .agg #[.int .i64 xb, .int .i64 yb]),
      (fun v _ _ => v = .bool true),
      (fun v _ _ => v = .bool true),
      (fun v _ _ => v = .bool true)
    ] (fun _ => none) (by kernel_rfl) (by kernel_rfl) ⟨stab_eq, stab_eq, stab_eq, stab_eq, stab_eq, stab_eq, stab_eq, stab_eq, stab_eq, stab_eq, stab_eq, stab_eq, stab_eq, stab_eq, stab_eq, stab_eq, stab_eq, stab_eq, stab_eq, stab_eq, stab_eq, stab_eq, stab_eq, stab_eq, stab_eq, stab_eq, stab_eq, stab_eq, stab_eq, stab_eq, trivial⟩ ?steps ?fin
  case steps =>
    refine ⟨?_, ?_, ?_, ?_, ?_, ?_, ?_, ?_, ?_, ?_, ?_, ?_, ?_, ?_, ?_, ?_, ?_, ?_, ?_, ?_, ?_, ?_, ?_, ?_, ?_, ?_, ?_, ?_, ?_, ?_, trivial⟩
    · intro vs g w2 hI hF hR K hK
      simp only [Facts, fill, Act.put, z1, z2, z3, z4, z5, Nat.reduceAdd] at hF hR hK ⊢
      have k0 := hI.cell C0_W_0.out (by first | exact HO0 | exact HO1 | exact HO2 | exact HO3 | assumption)
      have k1 := hI.cell C0_W_1.out (by first | exact HO0 | exact HO1 | exact HO2 | exact HO3 | assumption)
      go_simp
      exact hK _ _ _ hI (Step.refl hI) rfl
    · intro vs g w2 hI hF hR K hK
      simp only [Facts, fill, Act.put, z1, z2, z3, z4, z5, Nat.reduceAdd] at hF hR hK ⊢
      have k0 := hI.cell C1_W_0.out (by first | exact HO0 | exact HO1 | exact HO2 | exact HO3 | assumption)
      have k1 := hI.cell C1_W_1.out (by first | exact HO0 | exact HO1 | exact HO2 | exact HO3 | assumption)
      go_simp
      exact hK _ _ _ hI (Step.refl hI) rfl
    · intro vs g w2 hI hF hR K hK
      simp only [Facts, fill, Act.put, z1, z2, z3, z4, z5, Nat.reduceAdd] at hF hR hK ⊢
      have k0 := hI.cell C2_W_0.out (by first | exact HO0 | exact HO1 | exact HO2 | exact HO3 | assumption)
      have k1 := hI.cell C2_W_1.out (by first | exact HO0 | exact HO1 | exact HO2 | exact HO3 | assumption)
      go_simp
      exact hK _ _ _ hI (Step.refl hI) rfl
    · intro vs g w2 hI hF hR K hK
      simp only [Facts, fill, Act.put, z1, z2, z3, z4, z5, Nat.reduceAdd] at hF hR hK ⊢
      have k0 := hI.cell C3_W_0.out (by first | exact HO0 | exact HO1 | exact HO2 | exact HO3 | assumption)
      have k1 := hI.cell C3_W_1.out (by first | exact HO0 | exact HO1 | exact HO2 | exact HO3 | assumption)
      go_simp
      exact hK _ _ _ hI (Step.refl hI) rfl
    · intro vs g w2 hI hF hR K hK
      simp only [Facts, fill, Act.put, z1, z2, z3, z4, z5, Nat.reduceAdd] at hF hR hK ⊢
      obtain ⟨r0, r1, r2, r3, -⟩ := hR
      generalize vs 0 = x0, vs 1 = x1, vs 2 = x2, vs 3 = x3 at *
      subst r0 r1 r2 r3
      go_simp
      refine (gRef8CrossesR hI sxa sya sxb syb sxc syc sxd syd H0.out).mono ?_
      rintro e w3 ⟨v3, rfl, hv, hb⟩
      exact hK _ _ _ (hI.call hb) (Step.call hI hb) hv
    · intro vs g w2 hI hF hR K hK
      simp only [Facts, fill, Act.put, z1, z2, z3, z4, z5, Nat.reduceAdd] at hF hR hK ⊢
      obtain ⟨r4, -⟩ := hR
      generalize vs 4 = x4 at *
      subst r4
      go_simp
      exact hK _ _ _ hI (Step.refl hI) rfl
    · intro vs g w2 hI hF hR K hK
      simp only [Facts, fill, Act.put, z1, z2, z3, z4, z5, Nat.reduceAdd] at hF hR hK ⊢
      obtain ⟨r5, -⟩ := hR
      generalize vs 5 = x5 at *
      subst r5
      have k0 := hI.cell C0_W_0.out (by first | exact HO0 | exact HO1 | exact HO2 | exact HO3 | assumption)
      have k1 := hI.cell C0_W_1.out (by first | exact HO0 | exact HO1 | exact HO2 | exact HO3 | assumption)
      go_simp
      exact hK _ _ _ hI (Step.refl hI) rfl
    · intro vs g w2 hI hF hR K hK
      simp only [Facts, fill, Act.put, z1, z2, z3, z4, z5, Nat.reduceAdd] at hF hR hK ⊢
      obtain ⟨r5, -⟩ := hR
      generalize vs 5 = x5 at *
      subst r5
      have k0 := hI.cell C1_W_0.out (by first | exact HO0 | exact HO1 | exact HO2 | exact HO3 | assumption)
      have k1 := hI.cell C1_W_1.out (by first | exact HO0 | exact HO1 | exact HO2 | exact HO3 | assumption)
      go_simp
      exact hK _ _ _ hI (Step.refl hI) rfl
    · intro vs g w2 hI hF hR K hK
      simp only [Facts, fill, Act.put, z1, z2, z3, z4, z5, Nat.reduceAdd] at hF hR hK ⊢
      obtain ⟨r5, -⟩ := hR
      generalize vs 5 = x5 at *
      subst r5
      have k0 := hI.cell C2_W_0.out (by first | exact HO0 | exact HO1 | exact HO2 | exact HO3 | assumption)
      have k1 := hI.cell C2_W_1.out (by first | exact HO0 | exact HO1 | exact HO2 | exact HO3 | assumption)
      go_simp
      exact hK _ _ _ hI (Step.refl hI) rfl
    · intro vs g w2 hI hF hR K hK
      simp only [Facts, fill, Act.put, z1, z2, z3, z4, z5, Nat.reduceAdd] at hF hR hK ⊢
      obtain ⟨r5, r6, r7, r8, -⟩ := hR
      generalize vs 5 = x5, vs 6 = x6, vs 7 = x7, vs 8 = x8 at *
      subst r5 r6 r7 r8
      go_simp
      refine (gRef8ContainsR hI sxa sya sxb syb sxc syc H1.out).mono ?_
      rintro e w3 ⟨v3, rfl, hv, hb⟩
      exact hK _ _ _ (hI.call hb) (Step.call hI hb) hv
    · intro vs g w2 hI hF hR K hK
      simp only [Facts, fill, Act.put, z1, z2, z3, z4, z5, Nat.reduceAdd] at hF hR hK ⊢
      obtain ⟨r5, r9, -⟩ := hR
      generalize vs 5 = x5, vs 9 = x9 at *
      subst r5 r9
      go_simp
      exact hK _ _ _ hI (Step.refl hI) rfl
    · intro vs g w2 hI hF hR K hK
      simp only [Facts, fill, Act.put, z1, z2, z3, z4, z5, Nat.reduceAdd] at hF hR hK ⊢
      obtain ⟨r10, -⟩ := hR
      generalize vs 10 = x10 at *
      subst r10
      go_simp
      exact hK _ _ _ hI (Step.refl hI) rfl
    · intro vs g w2 hI hF hR K hK
      simp only [Facts, fill, Act.put, z1, z2, z3, z4, z5, Nat.reduceAdd] at hF hR hK ⊢
      obtain ⟨r11, -⟩ := hR
      generalize vs 11 = x11 at *
      subst r11
      have k0 := hI.cell C0_W_0.out (by first | exact HO0 | exact HO1 | exact HO2 | exact HO3 | assumption)
      have k1 := hI.cell C0_W_1.out (by first | exact HO0 | exact HO1 | exact HO2 | exact HO3 | assumption)
      go_simp
      exact hK _ _ _ hI (Step.refl hI) rfl
    · intro vs g w2 hI hF hR K hK
      simp only [Facts, fill, Act.put, z1, z2, z3, z4, z5, Nat.reduceAdd] at hF hR hK ⊢
      obtain ⟨r11, -⟩ := hR
      generalize vs 11 = x11 at *
      subst r11
      have k0 := hI.cell C1_W_0.out (by first | exact HO0 | exact HO1 | exact HO2 | exact HO3 | assumption)
      have k1 := hI.cell C1_W_1.out (by first | exact HO0 | exact HO1 | exact HO2 | exact HO3 | assumption)
      go_simp
      exact hK _ _ _ hI (Step.refl hI) rfl
    · intro vs g w2 hI hF hR K hK
      simp only [Facts, fill, Act.put, z1, z2, z3, z4, z5, Nat.reduceAdd] at hF hR hK ⊢
      obtain ⟨r11, -⟩ := hR
      generalize vs 11 = x11 at *
      subst r11
      have k0 := hI.cell C3_W_0.out (by first | exact HO0 | exact HO1 | exact HO2 | exact HO3 | assumption)
      have k1 := hI.cell C3_W_1.out (by first | exact HO0 | exact HO1 | exact HO2 | exact HO3 | assumption)
      go_simp
      exact hK _ _ _ hI (Step.refl hI) rfl
    · intro vs g w2 hI hF hR K hK
      simp only [Facts, fill, Act.put, z1, z2, z3, z4, z5, Nat.reduceAdd] at hF hR hK ⊢
      obtain ⟨r11, r12, r13, r14, -⟩ := hR
      generalize vs 11 = x11, vs 12 = x12, vs 13 = x13, vs 14 = x14 at *
      subst r11 r12 r13 r14
      go_simp
      refine (gRef8ContainsR hI sxa sya sxb syb sxd syd H2.out).mono ?_
      rintro e w3 ⟨v3, rfl, hv, hb⟩
      exact hK _ _ _ (hI.call hb) (Step.call hI hb) hv
    · intro vs g w2 hI hF hR K hK
      simp only [Facts, fill, Act.put, z1, z2, z3, z4, z5, Nat.reduceAdd] at hF hR hK ⊢
      obtain ⟨r11, r15, -⟩ := hR
      generalize vs 11 = x11, vs 15 = x15 at *
      subst r11 r15
      go_simp
      exact hK _ _ _ hI (Step.refl hI) rfl
    · intro vs g w2 hI hF hR K hK
      simp only [Facts, fill, Act.put, z1, z2, z3, z4, z5, Nat.reduceAdd] at hF hR hK ⊢
      obtain ⟨r16, -⟩ := hR
      generalize vs 16 = x16 at *
      subst r16
      go_simp
      exact hK _ _ _ hI (Step.refl hI) rfl
    · intro vs g w2 hI hF hR K hK
      simp only [Facts, fill, Act.put, z1, z2, z3, z4, z5, Nat.reduceAdd] at hF hR hK ⊢
      obtain ⟨r17, -⟩ := hR
      generalize vs 17 = x17 at *
      subst r17
      have k0 := hI.cell C2_W_0.out (by first | exact HO0 | exact HO1 | exact HO2 | exact HO3 | assumption)
      have k1 := hI.cell C2_W_1.out (by first | exact HO0 | exact HO1 | exact HO2 | exact HO3 | assumption)
      go_simp
      exact hK _ _ _ hI (Step.refl hI) rfl
    · intro vs g w2 hI hF hR K hK
      simp only [Facts, fill, Act.put, z1, z2, z3, z4, z5, Nat.reduceAdd] at hF hR hK ⊢
      obtain ⟨r17, -⟩ := hR
      generalize vs 17 = x17 at *
      subst r17
      have k0 := hI.cell C3_W_0.out (by first | exact HO0 | exact HO1 | exact HO2 | exact HO3 | assumption)
      have k1 := hI.cell C3_W_1.out (by first | exact HO0 | exact HO1 | exact HO2 | exact HO3 | assumption)
      go_simp
      exact hK _ _ _ hI (Step.refl hI) rfl
    · intro vs g w2 hI hF hR K hK
      simp only [Facts, fill, Act.put, z1, z2, z3, z4, z5, Nat.reduceAdd] at hF hR hK ⊢
      obtain ⟨r17, -⟩ := hR
      generalize vs 17 = x17 at *
      subst r17
      have k0 := hI.cell C0_W_0.out (by first | exact HO0 | exact HO1 | exact HO2 | exact HO3 | assumption)
      have k1 := hI.cell C0_W_1.out (by first | exact HO0 | exact HO1 | exact HO2 | exact HO3 | assumption)
      go_simp
      exact hK _ _ _ hI (Step.refl hI) rfl
    · intro vs g w2 hI hF hR K hK
      simp only [Facts, fill, Act.put, z1, z2, z3, z4, z5, Nat.reduceAdd] at hF hR hK ⊢
      obtain ⟨r17, r18, r19, r20, -⟩ := hR
      generalize vs 17 = x17, vs 18 = x18, vs 19 = x19, vs 20 = x20 at *
      subst r17 r18 r19 r20
      go_simp
      refine (gRef8ContainsR hI sxc syc sxd syd sxa sya H3.out).mono ?_
      rintro e w3 ⟨v3, rfl, hv, hb⟩
      exact hK _ _ _ (hI.call hb) (Step.call hI hb) hv
    · intro vs g w2 hI hF hR K hK
      simp only [Facts, fill, Act.put, z1, z2, z3, z4, z5, Nat.reduceAdd] at hF hR hK ⊢
      obtain ⟨r17, r21, -⟩ := hR
      generalize vs 17 = x17, vs 21 = x21 at *
      subst r17 r21
      go_simp
      exact hK _ _ _ hI (Step.refl hI) rfl
    · intro vs g w2 hI hF hR K hK
      simp only [Facts, fill, Act.put, z1, z2, z3, z4, z5, Nat.reduceAdd] at hF hR hK ⊢
      obtain ⟨r22, -⟩ := hR
      generalize vs 22 = x22 at *
      subst r22
      go_simp
      exact hK _ _ _ hI (Step.refl hI) rfl
    · intro vs g w2 hI hF hR K hK
      simp only [Facts, fill, Act.put, z1, z2, z3, z4, z5, Nat.reduceAdd] at hF hR hK ⊢
      obtain ⟨r23, -⟩ := hR
      generalize vs 23 = x23 at *
      subst r23
      have k0 := hI.cell C2_W_0.out (by first | exact HO0 | exact HO1 | exact HO2 | exact HO3 | assumption)
      have k1 := hI.cell C2_W_1.out (by first | exact HO0 | exact HO1 | exact HO2 | exact HO3 | assumption)
      go_simp
      exact hK _ _ _ hI (Step.refl hI) rfl
    · intro vs g w2 hI hF hR K hK
      simp only [Facts, fill, Act.put, z1, z2, z3, z4, z5, Nat.reduceAdd] at hF hR hK ⊢
      obtain ⟨r23, -⟩ := hR
      generalize vs 23 = x23 at *
      subst r23
      have k0 := hI.cell C3_W_0.out (by first | exact HO0 | exact HO1 | exact HO2 | exact HO3 | assumption)
      have k1 := hI.cell C3_W_1.out (by first | exact HO0 | exact HO1 | exact HO2 | exact HO3 | assumption)
      go_simp
      exact hK _ _ _ hI (Step.refl hI) rfl
    · intro vs g w2 hI hF hR K hK
      simp only [Facts, fill, Act.put, z1, z2, z3, z4, z5, Nat.reduceAdd] at hF hR hK ⊢
      obtain ⟨r23, -⟩ := hR
      generalize vs 23 = x23 at *
      subst r23
      have k0 := hI.cell C1_W_0.out (by first | exact HO0 | exact HO1 | exact HO2 | exact HO3 | assumption)
      have k1 := hI.cell C1_W_1.out (by first | exact HO0 | exact HO1 | exact HO2 | exact HO3 | assumption)
      go_simp
      exact hK _ _ _ hI (Step.refl hI) rfl
    · intro vs g w2 hI hF hR K hK
      simp only [Facts, fill, Act.put, z1, z2, z3, z4, z5, Nat.reduceAdd] at hF hR hK ⊢
      obtain ⟨r23, r24, r25, r26, -⟩ := hR
      generalize vs 23 = x23, vs 24 = x24, vs 25 = x25, vs 26 = x26 at *
      subst r23 r24 r25 r26
      go_simp
      refine (gRef8ContainsR hI sxc syc sxd syd sxb syb H4.out).mono ?_
      rintro e w3 ⟨v3, rfl, hv, hb⟩
      exact hK _ _ _ (hI.call hb) (Step.call hI hb) hv
    · intro vs g w2 hI hF hR K hK
      simp only [Facts, fill, Act.put, z1, z2, z3, z4, z5, Nat.reduceAdd] at hF hR hK ⊢
      obtain ⟨r23, r27, -⟩ := hR
      generalize vs 23 = x23, vs 27 = x27 at *
      subst r23 r27
      go_simp
      exact hK _ _ _ hI (Step.refl hI) rfl
    · intro vs g w2 hI hF hR K hK
      simp only [Facts, fill, Act.put, z1, z2, z3, z4, z5, Nat.reduceAdd] at hF hR hK ⊢
      obtain ⟨r28, -⟩ := hR
      generalize vs 28 = x28 at *
      subst r28
      go_simp
      exact hK _ _ _ hI (Step.refl hI) rfl
  case fin =>
    intro vs g wR1 hI hR
    have r29 := hR 29 (by decide)
    simp only [fill, Act.put, z1, z2, z3, z4, z5] at r29 ⊢
    clear hR
    generalize vs 29 = x29 at *
    have C0_R1_0 := Lib.hid (hI.cell C0_W_0.out (by first | exact HO0 | exact HO1 | exact HO2 | exact HO3 | assumption))
    have C0_R1_1 := Lib.hid (hI.cell C0_W_1.out (by first | exact HO0 | exact HO1 | exact HO2 | exact HO3 | assumption))
    have C1_R1_0 := Lib.hid (hI.cell C1_W_0.out (by first | exact HO0 | exact HO1 | exact HO2 | exact HO3 | assumption))
    have C1_R1_1 := Lib.hid (hI.cell C1_W_1.out (by first | exact HO0 | exact HO1 | exact HO2 | exact HO3 | assumption))
    have C2_R1_0 := Lib.hid (hI.cell C2_W_0.out (by first | exact HO0 | exact HO1 | exact HO2 | exact HO3 | assumption))
    have C2_R1_1 := Lib.hid (hI.cell C2_W_1.out (by first | exact HO0 | exact HO1 | exact HO2 | exact HO3 | assumption))
    have C3_R1_0 := Lib.hid (hI.cell C3_W_0.out (by first | exact HO0 | exact HO1 | exact HO2 | exact HO3 | assumption))
    have C3_R1_1 := Lib.hid (hI.cell C3_W_1.out (by first | exact HO0 | exact HO1 | exact HO2 | exact HO3 | assumption))
    subst r29
    have hBR1 := hI.below
    have HCR1 := hI.next HOK
    clear hI
    go_wp2
    go_ret
    exact ⟨_, rfl, rfl, hBR1⟩
set_option maxRecDepth 100000 in
set_option maxHeartbeats 4000000 in
theorem gRef8MeetFFFFF {c0 : Ctx} {g0 : Gh} {w : World} {xa ya xb yb xc yc xd yd : Int} (hI0 : RInv c0 g0 w) (sxa : S xa) (sya : S ya) (sxb : S xb) (syb : S yb) (sxc : S xc) (syc : S yc) (sxd : S xd) (syd : S yd) (h0 : crossB xa ya xb yb xc yc xd yd = false) (h1 : contB xa ya xb yb xc yc = false) (h2 : contB xa ya xb yb xd yd = false) (h3 : contB xc yc xd yd xa ya = false) (h4 : contB xc yc xd yd xb yb = false) :
    Calls Tryd.prog 18 #[.agg #[.int .i64 xa, .int .i64 ya], .agg #[.int .i64 xb, .int .i64 yb], .agg #[.int .i64 xc, .int .i64 yc], .agg #[.int .i64 xd, .int .i64 yd]] w (Gives (fun v _ _ => v = .bool false) g0 w) := by
  have H0 := Lib.hid h0
  have H1 := Lib.hid h1
  have H2 := Lib.hid h2
  have H3 := Lib.hid h3
  have H4 := Lib.hid h4
  clear h0 h1 h2 h3 h4
  obtain ⟨W, hW⟩ : ∃ W, W = (((w.alloc (.cells #[.int .i64 xa, .int .i64 ya] 28)).alloc (.cells #[.int .i64 xb, .int .i64 yb] 28)).alloc (.cells #[.int .i64 xc, .int .i64 yc] 28)).alloc (.cells #[.int .i64 xd, .int .i64 yd] 28) := ⟨_, rfl⟩
  have hb0 : Below w.heap.size w W := by rw [hW]; exact (((((Below.refl _ _).alloc (Nat.le_refl _) _).alloc (by simp) _).alloc (by simp; omega) _).alloc (by simp; omega) _)
  have HOK := Ctx.ok_lift0 hI0 hb0
  have C0_W_0 := Lib.hid (show W.cell? ⟨w.heap.size, 0, none⟩ = some (.int .i64 xa) by rw [hW]; simp [go_sem])
  have C0_W_1 := Lib.hid (show W.cell? ⟨w.heap.size, 1, none⟩ = some (.int .i64 ya) by rw [hW]; simp [go_sem])
  have HO0 : Off (lift0 g0) (w.heap.size) := lift0_off (hI0.offs _ (by omega))
  have C1_W_0 := Lib.hid (show W.cell? ⟨w.heap.size + 1, 0, none⟩ = some (.int .i64 xb) by rw [hW]; simp [go_sem])
  have C1_W_1 := Lib.hid (show W.cell? ⟨w.heap.size + 1, 1, none⟩ = some (.int .i64 yb) by rw [hW]; simp [go_sem])
  have HO1 : Off (lift0 g0) (w.heap.size + 1) := lift0_off (hI0.offs _ (by omega))
  have C2_W_0 := Lib.hid (show W.cell? ⟨w.heap.size + 1 + 1, 0, none⟩ = some (.int .i64 xc) by rw [hW]; simp [go_sem])
  have C2_W_1 := Lib.hid (show W.cell? ⟨w.heap.size + 1 + 1, 1, none⟩ = some (.int .i64 yc) by rw [hW]; simp [go_sem])
  have HO2 : Off (lift0 g0) (w.heap.size + 1 + 1) := lift0_off (hI0.offs _ (by omega))
  have C3_W_0 := Lib.hid (show W.cell? ⟨w.heap.size + 1 + 1 + 1, 0, none⟩ = some (.int .i64 xd) by rw [hW]; simp [go_sem])
  have C3_W_1 := Lib.hid (show W.cell? ⟨w.heap.size + 1 + 1 + 1, 1, none⟩ = some (.int .i64 yd) by rw [hW]; simp [go_sem])
  have HO3 : Off (lift0 g0) (w.heap.size + 1 + 1 + 1) := lift0_off (hI0.offs _ (by omega))
  have HW := Lib.hid hW
  clear hW
  go_enter Tryd.func18, Tryd.ntmps18
  go_upto_region 1 with (fail)
  rw [← HW.out]
  refine box_plan0 (c := ⟨w, W, (lift0 g0)⟩) HOK [[], [], [], [], [(9, 0), (10, 1), (11, 2), (12, 3)], [(13, 4)], [(14, 5)], [(14, 5)], [(14, 5)], [(14, 5), (15, 6), (16, 7), (17, 8)], [(14, 5), (18, 9)], [(19, 10)], [(20, 11)], [(20, 11)], [(20, 11)], [(20, 11), (21, 12), (22, 13), (23, 14)], [(20, 11), (24, 15)], [(25, 16)], [(26, 17)], [(26, 17)], [(26, 17)], [(26, 17), (27, 18), (28, 19), (29, 20)], [(26, 17), (30, 21)], [(31, 22)], [(32, 23)], [(32, 23)], [(32, 23)], [(32, 23), (33, 24), (34, 25), (35, 26)], [(32, 23), (36, 27)], [(37, 28)]] [(9, 0), (10, 1), (11, 2), (12, 3), (13, 4), (14, 5), (15, 6), (16, 7), (17, 8), (18, 9), (19, 10), (20, 11), (21, 12), (22, 13), (23, 14), (24, 15), (25, 16), (26, 17), (27, 18), (28, 19), (29, 20), (30, 21), (31, 22), (32, 23), (33, 24), (34, 25), (35, 26), (36, 27), (37, 28), (8, 29)] [
      (fun v _ _ => v = .agg #[.int .i64 xa, .int .i64 ya]),
      (fun v _ _ => v = .agg #[.int .i64 xb, .int .i64 yb]),
      (fun v _ _ => v = .agg #[.int .i64 xc, .int .i64 yc]),
      (fun v _ _ => v = .agg #[.int .i64 xd, .int .i64 yd]),
      (fun v _ _ => v = .bool false),
      (fun v _ _ => v = .bool false),
      (fun v _ _ => v = .agg #[.int .i64 xa, .int .i64 ya]),
      (fun v _ _ => v = .agg #[.int .i64 xb, .int .i64 yb]),
      (fun v _ _ => v = .agg #[.int .i64 xc, .int .i64 yc]),
      (fun v _ _ => v = .bool false),
      (fun v _ _ => v = .bool false),
      (fun v _ _ => v = .bool false),
      (fun v _ _ => v = .agg #[.int .i64 xa, .int .i64 ya]),
      (fun v _ _ => v = .agg #[.int .i64 xb, .int .i64 yb]),
      (fun v _ _ => v = .agg #[.int .i64 xd, .int .i64 yd]),
      (fun v _ _ => v = .bool false),
      (fun v _ _ => v = .bool false),
      (fun v _ _ => v = .bool false),
      (fun v _ _ => v = .agg #[.int .i64 xc, .int .i64 yc]),
      (fun v _ _ => v = .agg #[.int .i64 xd, .int .i64 yd]),
      (fun v _ _ => v = .agg #[.int .i64 xa, .int .i64 ya]),
      (fun v _ _ => v = .bool false),
      (fun v _ _ => v = .bool false),
      (fun v _ _ => v = .bool false),
      (fun v _ _ => v = .agg #[.int .i64 xc, .int .i64 yc]),
      (fun v _ _ => v = .agg #[.int .i64 xd, .int .i64 yd]),
      (fun v _ _ => v = .agg #[.int .i64 xb, .int .i64 yb]),
      (fun v _ _ => v = .bool false),
      (fun v _ _ => v = .bool false),
      (fun v _ _ => v = .bool false)
    ] (fun _ => none) (by kernel_rfl) (by kernel_rfl) ⟨stab_eq, stab_eq, stab_eq, stab_eq, stab_eq, stab_eq, stab_eq, stab_eq, stab_eq, stab_eq, stab_eq, stab_eq, stab_eq, stab_eq, stab_eq, stab_eq, stab_eq, stab_eq, stab_eq, stab_eq, stab_eq, stab_eq, stab_eq, stab_eq, stab_eq, stab_eq, stab_eq, stab_eq, stab_eq, stab_eq, trivial⟩ ?steps ?fin
  case steps =>
    refine ⟨?_, ?_, ?_, ?_, ?_, ?_, ?_, ?_, ?_, ?_, ?_, ?_, ?_, ?_, ?_, ?_, ?_, ?_, ?_, ?_, ?_, ?_, ?_, ?_, ?_, ?_, ?_, ?_, ?_, ?_, trivial⟩
    · intro vs g w2 hI hF hR K hK
      simp only [Facts, fill, Act.put, z1, z2, z3, z4, z5, Nat.reduceAdd] at hF hR hK ⊢
      have k0 := hI.cell C0_W_0.out (by first | exact HO0 | exact HO1 | exact HO2 | exact HO3 | assumption)
      have k1 := hI.cell C0_W_1.out (by first | exact HO0 | exact HO1 | exact HO2 | exact HO3 | assumption)
      go_simp
      exact hK _ _ _ hI (Step.refl hI) rfl
    · intro vs g w2 hI hF hR K hK
      simp only [Facts, fill, Act.put, z1, z2, z3, z4, z5, Nat.reduceAdd] at hF hR hK ⊢
      have k0 := hI.cell C1_W_0.out (by first | exact HO0 | exact HO1 | exact HO2 | exact HO3 | assumption)
      have k1 := hI.cell C1_W_1.out (by first | exact HO0 | exact HO1 | exact HO2 | exact HO3 | assumption)
      go_simp
      exact hK _ _ _ hI (Step.refl hI) rfl
    · intro vs g w2 hI hF hR K hK
      simp only [Facts, fill, Act.put, z1, z2, z3, z4, z5, Nat.reduceAdd] at hF hR hK ⊢
      have k0 := hI.cell C2_W_0.out (by first | exact HO0 | exact HO1 | exact HO2 | exact HO3 | assumption)
      have k1 := hI.cell C2_W_1.out (by first | exact HO0 | exact HO1 | exact HO2 | exact HO3 | assumption)
      go_simp
      exact hK _ _ _ hI (Step.refl hI) rfl
    · intro vs g w2 hI hF hR K hK
      simp only [Facts, fill, Act.put, z1, z2, z3, z4, z5, Nat.reduceAdd] at hF hR hK ⊢
      have k0 := hI.cell C3_W_0.out (by first | exact HO0 | exact HO1 | exact HO2 | exact HO3 | assumption)
      have k1 := hI.cell C3_W_1.out (by first | exact HO0 | exact HO1 | exact HO2 | exact HO3 | assumption)
      go_simp
      exact hK _ _ _ hI (Step.refl hI) rfl
    · intro vs g w2 hI hF hR K hK
      simp only [Facts, fill, Act.put, z1, z2, z3, z4, z5, Nat.reduceAdd] at hF hR hK ⊢
      obtain ⟨r0, r1, r2, r3, -⟩ := hR
      generalize vs 0 = x0, vs 1 = x1, vs 2 = x2, vs 3 = x3 at *
      subst r0 r1 r2 r3
      go_simp
      refine (gRef8CrossesR hI sxa sya sxb syb sxc syc sxd syd H0.out).mono ?_
      rintro e w3 ⟨v3, rfl, hv, hb⟩
      exact hK _ _ _ (hI.call hb) (Step.call hI hb) hv
    · intro vs g w2 hI hF hR K hK
      simp only [Facts, fill, Act.put, z1, z2, z3, z4, z5, Nat.reduceAdd] at hF hR hK ⊢
      obtain ⟨r4, -⟩ := hR
      generalize vs 4 = x4 at *
      subst r4
      go_simp
      exact hK _ _ _ hI (Step.refl hI) rfl
    · intro vs g w2 hI hF hR K hK
      simp only [Facts, fill, Act.put, z1, z2, z3, z4, z5, Nat.reduceAdd] at hF hR hK ⊢
      obtain ⟨r5, -⟩ := hR
      generalize vs 5 = x5 at *
      subst r5
      have k0 := hI.cell C0_W_0.out (by first | exact HO0 | exact HO1 | exact HO2 | exact HO3 | assumption)
      have k1 := hI.cell C0_W_1.out (by first | exact HO0 | exact HO1 | exact HO2 | exact HO3 | assumption)
      go_simp
      exact hK _ _ _ hI (Step.refl hI) rfl
    · intro vs g w2 hI hF hR K hK
      simp only [Facts, fill, Act.put, z1, z2, z3, z4, z5, Nat.reduceAdd] at hF hR hK ⊢
      obtain ⟨r5, -⟩ := hR
      generalize vs 5 = x5 at *
      subst r5
      have k0 := hI.cell C1_W_0.out (by first | exact HO0 | exact HO1 | exact HO2 | exact HO3 | assumption)
      have k1 := hI.cell C1_W_1.out (by first | exact HO0 | exact HO1 | exact HO2 | exact HO3 | assumption)
      go_simp
      exact hK _ _ _ hI (Step.refl hI) rfl
    · intro vs g w2 hI hF hR K hK
      simp only [Facts, fill, Act.put, z1, z2, z3, z4, z5, Nat.reduceAdd] at hF hR hK ⊢
      obtain ⟨r5, -⟩ := hR
      generalize vs 5 = x5 at *
      subst r5
      have k0 := hI.cell C2_W_0.out (by first | exact HO0 | exact HO1 | exact HO2 | exact HO3 | assumption)
      have k1 := hI.cell C2_W_1.out (by first | exact HO0 | exact HO1 | exact HO2 | exact HO3 | assumption)
      go_simp
      exact hK _ _ _ hI (Step.refl hI) rfl
    · intro vs g w2 hI hF hR K hK
      simp only [Facts, fill, Act.put, z1, z2, z3, z4, z5, Nat.reduceAdd] at hF hR hK ⊢
      obtain ⟨r5, r6, r7, r8, -⟩ := hR
      generalize vs 5 = x5, vs 6 = x6, vs 7 = x7, vs 8 = x8 at *
      subst r5 r6 r7 r8
      go_simp
      refine (gRef8ContainsR hI sxa sya sxb syb sxc syc H1.out).mono ?_
      rintro e w3 ⟨v3, rfl, hv, hb⟩
      exact hK _ _ _ (hI.call hb) (Step.call hI hb) hv
    · intro vs g w2 hI hF hR K hK
      simp only [Facts, fill, Act.put, z1, z2, z3, z4, z5, Nat.reduceAdd] at hF hR hK ⊢
      obtain ⟨r5, r9, -⟩ := hR
      generalize vs 5 = x5, vs 9 = x9 at *
      subst r5 r9
      go_simp
      exact hK _ _ _ hI (Step.refl hI) rfl
    · intro vs g w2 hI hF hR K hK
      simp only [Facts, fill, Act.put, z1, z2, z3, z4, z5, Nat.reduceAdd] at hF hR hK ⊢
      obtain ⟨r10, -⟩ := hR
      generalize vs 10 = x10 at *
      subst r10
      go_simp
      exact hK _ _ _ hI (Step.refl hI) rfl
    · intro vs g w2 hI hF hR K hK
      simp only [Facts, fill, Act.put, z1, z2, z3, z4, z5, Nat.reduceAdd] at hF hR hK ⊢
      obtain ⟨r11, -⟩ := hR
      generalize vs 11 = x11 at *
      subst r11
      have k0 := hI.cell C0_W_0.out (by first | exact HO0 | exact HO1 | exact HO2 | exact HO3 | assumption)
      have k1 := hI.cell C0_W_1.out (by first | exact HO0 | exact HO1 | exact HO2 | exact HO3 | assumption)
      go_simp
      exact hK _ _ _ hI (Step.refl hI) rfl
    · intro vs g w2 hI hF hR K hK
      simp only [Facts, fill, Act.put, z1, z2, z3, z4, z5, Nat.reduceAdd] at hF hR hK ⊢
      obtain ⟨r11, -⟩ := hR
      generalize vs 11 = x11 at *
      subst r11
      have k0 := hI.cell C1_W_0.out (by first | exact HO0 | exact HO1 | exact HO2 | exact HO3 | assumption)
      have k1 := hI.cell C1_W_1.out (by first | exact HO0 | exact HO1 | exact HO2 | exact HO3 | assumption)
      go_simp
      exact hK _ _ _ hI (Step.refl hI) rfl
    · intro vs g w2 hI hF hR K hK
      simp only [Facts, fill, Act.put, z1, z2, z3, z4, z5, Nat.reduceAdd] at hF hR hK ⊢
      obtain ⟨r11, -⟩ := hR
      generalize vs 11 = x11 at *
      subst r11
      have k0 := hI.cell C3_W_0.out (by first | exact HO0 | exact HO1 | exact HO2 | exact HO3 | assumption)
      have k1 := hI.cell C3_W_1.out (by first | exact HO0 | exact HO1 | exact HO2 | exact HO3 | assumption)
      go_simp
      exact hK _ _ _ hI (Step.refl hI) rfl
    · intro vs g w2 hI hF hR K hK
      simp only [Facts, fill, Act.put, z1, z2, z3, z4, z5, Nat.reduceAdd] at hF hR hK ⊢
      obtain ⟨r11, r12, r13, r14, -⟩ := hR
      generalize vs 11 = x11, vs 12 = x12, vs 13 = x13, vs 14 = x14 at *
      subst r11 r12 r13 r14
      go_simp
      refine (gRef8ContainsR hI sxa sya sxb syb sxd syd H2.out).mono ?_
      rintro e w3 ⟨v3, rfl, hv, hb⟩
      exact hK _ _ _ (hI.call hb) (Step.call hI hb) hv
    · intro vs g w2 hI hF hR K hK
      simp only [Facts, fill, Act.put, z1, z2, z3, z4, z5, Nat.reduceAdd] at hF hR hK ⊢
      obtain ⟨r11, r15, -⟩ := hR
      generalize vs 11 = x11, vs 15 = x15 at *
      subst r11 r15
      go_simp
      exact hK _ _ _ hI (Step.refl hI) rfl
    · intro vs g w2 hI hF hR K hK
      simp only [Facts, fill, Act.put, z1, z2, z3, z4, z5, Nat.reduceAdd] at hF hR hK ⊢
      obtain ⟨r16, -⟩ := hR
      generalize vs 16 = x16 at *
      subst r16
      go_simp
      exact hK _ _ _ hI (Step.refl hI) rfl
    · intro vs g w2 hI hF hR K hK
      simp only [Facts, fill, Act.put, z1, z2, z3, z4, z5, Nat.reduceAdd] at hF hR hK ⊢
      obtain ⟨r17, -⟩ := hR
      generalize vs 17 = x17 at *
      subst r17
      have k0 := hI.cell C2_W_0.out (by first | exact HO0 | exact HO1 | exact HO2 | exact HO3 | assumption)
      have k1 := hI.cell C2_W_1.out (by first | exact HO0 | exact HO1 | exact HO2 | exact HO3 | assumption)
      go_simp
      exact hK _ _ _ hI (Step.refl hI) rfl
    · intro vs g w2 hI hF hR K hK
      simp only [Facts, fill, Act.put, z1, z2, z3, z4, z5, Nat.reduceAdd] at hF hR hK ⊢
      obtain ⟨r17, -⟩ := hR
      generalize vs 17 = x17 at *
      subst r17
      have k0 := hI.cell C3_W_0.out (by first | exact HO0 | exact HO1 | exact HO2 | exact HO3 | assumption)
      have k1 := hI.cell C3_W_1.out (by first | exact HO0 | exact HO1 | exact HO2 | exact HO3 | assumption)
      go_simp
      exact hK _ _ _ hI (Step.refl hI) rfl
    · intro vs g w2 hI hF hR K hK
      simp only [Facts, fill, Act.put, z1, z2, z3, z4, z5, Nat.reduceAdd] at hF hR hK ⊢
      obtain ⟨r17, -⟩ := hR
      generalize vs 17 = x17 at *
      subst r17
      have k0 := hI.cell C0_W_0.out (by first | exact HO0 | exact HO1 | exact HO2 | exact HO3 | assumption)
      have k1 := hI.cell C0_W_1.out (by first | exact HO0 | exact HO1 | exact HO2 | exact HO3 | assumption)
      go_simp
      exact hK _ _ _ hI (Step.refl hI) rfl
    · intro vs g w2 hI hF hR K hK
      simp only [Facts, fill, Act.put, z1, z2, z3, z4, z5, Nat.reduceAdd] at hF hR hK ⊢
      obtain ⟨r17, r18, r19, r20, -⟩ := hR
      generalize vs 17 = x17, vs 18 = x18, vs 19 = x19, vs 20 = x20 at *
      subst r17 r18 r19 r20
      go_simp
      refine (gRef8ContainsR hI sxc syc sxd syd sxa sya H3.out).mono ?_
      rintro e w3 ⟨v3, rfl, hv, hb⟩
      exact hK _ _ _ (hI.call hb) (Step.call hI hb) hv
    · intro vs g w2 hI hF hR K hK
      simp only [Facts, fill, Act.put, z1, z2, z3, z4, z5, Nat.reduceAdd] at hF hR hK ⊢
      obtain ⟨r17, r21, -⟩ := hR
      generalize vs 17 = x17, vs 21 = x21 at *
      subst r17 r21
      go_simp
      exact hK _ _ _ hI (Step.refl hI) rfl
    · intro vs g w2 hI hF hR K hK
      simp only [Facts, fill, Act.put, z1, z2, z3, z4, z5, Nat.reduceAdd] at hF hR hK ⊢
      obtain ⟨r22, -⟩ := hR
      generalize vs 22 = x22 at *
      subst r22
      go_simp
      exact hK _ _ _ hI (Step.refl hI) rfl
    · intro vs g w2 hI hF hR K hK
      simp only [Facts, fill, Act.put, z1, z2, z3, z4, z5, Nat.reduceAdd] at hF hR hK ⊢
      obtain ⟨r23, -⟩ := hR
      generalize vs 23 = x23 at *
      subst r23
      have k0 := hI.cell C2_W_0.out (by first | exact HO0 | exact HO1 | exact HO2 | exact HO3 | assumption)
      have k1 := hI.cell C2_W_1.out (by first | exact HO0 | exact HO1 | exact HO2 | exact HO3 | assumption)
      go_simp
      exact hK _ _ _ hI (Step.refl hI) rfl
    · intro vs g w2 hI hF hR K hK
      simp only [Facts, fill, Act.put, z1, z2, z3, z4, z5, Nat.reduceAdd] at hF hR hK ⊢
      obtain ⟨r23, -⟩ := hR
      generalize vs 23 = x23 at *
      subst r23
      have k0 := hI.cell C3_W_0.out (by first | exact HO0 | exact HO1 | exact HO2 | exact HO3 | assumption)
      have k1 := hI.cell C3_W_1.out (by first | exact HO0 | exact HO1 | exact HO2 | exact HO3 | assumption)
      go_simp
      exact hK _ _ _ hI (Step.refl hI) rfl
    · intro vs g w2 hI hF hR K hK
      simp only [Facts, fill, Act.put, z1, z2, z3, z4, z5, Nat.reduceAdd] at hF hR hK ⊢
      obtain ⟨r23, -⟩ := hR
      generalize vs 23 = x23 at *
      subst r23
      have k0 := hI.cell C1_W_0.out (by first | exact HO0 | exact HO1 | exact HO2 | exact HO3 | assumption)
      have k1 := hI.cell C1_W_1.out (by first | exact HO0 | exact HO1 | exact HO2 | exact HO3 | assumption)
      go_simp
      exact hK _ _ _ hI (Step.refl hI) rfl
    · intro vs g w2 hI hF hR K hK
      simp only [Facts, fill, Act.put, z1, z2, z3, z4, z5, Nat.reduceAdd] at hF hR hK ⊢
      obtain ⟨r23, r24, r25, r26, -⟩ := hR
      generalize vs 23 = x23, vs 24 = x24, vs 25 = x25, vs 26 = x26 at *
      subst r23 r24 r25 r26
      go_simp
      refine (gRef8ContainsR hI sxc syc sxd syd sxb syb H4.out).mono ?_
      rintro e w3 ⟨v3, rfl, hv, hb⟩
      exact hK _ _ _ (hI.call hb) (Step.call hI hb) hv
    · intro vs g w2 hI hF hR K hK
      simp only [Facts, fill, Act.put, z1, z2, z3, z4, z5, Nat.reduceAdd] at hF hR hK ⊢
      obtain ⟨r23, r27, -⟩ := hR
      generalize vs 23 = x23, vs 27 = x27 at *
      subst r23 r27
      go_simp
      exact hK _ _ _ hI (Step.refl hI) rfl
    · intro vs g w2 hI hF hR K hK
      simp only [Facts, fill, Act.put, z1, z2, z3, z4, z5, Nat.reduceAdd] at hF hR hK ⊢
      obtain ⟨r28, -⟩ := hR
      generalize vs 28 = x28 at *
      subst r28
      go_simp
      exact hK _ _ _ hI (Step.refl hI) rfl
  case fin =>
    intro vs g wR1 hI hR
    have r29 := hR 29 (by decide)
    simp only [fill, Act.put, z1, z2, z3, z4, z5] at r29 ⊢
    clear hR
    generalize vs 29 = x29 at *
    have C0_R1_0 := Lib.hid (hI.cell C0_W_0.out (by first | exact HO0 | exact HO1 | exact HO2 | exact HO3 | assumption))
    have C0_R1_1 := Lib.hid (hI.cell C0_W_1.out (by first | exact HO0 | exact HO1 | exact HO2 | exact HO3 | assumption))
    have C1_R1_0 := Lib.hid (hI.cell C1_W_0.out (by first | exact HO0 | exact HO1 | exact HO2 | exact HO3 | assumption))
    have C1_R1_1 := Lib.hid (hI.cell C1_W_1.out (by first | exact HO0 | exact HO1 | exact HO2 | exact HO3 | assumption))
    have C2_R1_0 := Lib.hid (hI.cell C2_W_0.out (by first | exact HO0 | exact HO1 | exact HO2 | exact HO3 | assumption))
    have C2_R1_1 := Lib.hid (hI.cell C2_W_1.out (by first | exact HO0 | exact HO1 | exact HO2 | exact HO3 | assumption))
    have C3_R1_0 := Lib.hid (hI.cell C3_W_0.out (by first | exact HO0 | exact HO1 | exact HO2 | exact HO3 | assumption))
    have C3_R1_1 := Lib.hid (hI.cell C3_W_1.out (by first | exact HO0 | exact HO1 | exact HO2 | exact HO3 | assumption))
    subst r29
    have hBR1 := hI.below
    have HCR1 := hI.next HOK
    clear hI
    go_wp2
    go_ret
    exact ⟨_, rfl, rfl, hBR1⟩
theorem gRef8Meets {c0 : Ctx} {g0 : Gh} {w : World} {xa ya xb yb xc yc xd yd : Int} (hI0 : RInv c0 g0 w) (sxa : S xa) (sya : S ya) (sxb : S xb) (syb : S yb) (sxc : S xc) (syc : S yc) (sxd : S xd) (syd : S yd) :
    Calls Tryd.prog 18 #[.agg #[.int .i64 xa, .int .i64 ya], .agg #[.int .i64 xb, .int .i64 yb], .agg #[.int .i64 xc, .int .i64 yc], .agg #[.int .i64 xd, .int .i64 yd]] w (Gives (fun v _ _ => v = .bool (meetB xa ya xb yb xc yc xd yd)) g0 w) := by
  rcases h0 : crossB xa ya xb yb xc yc xd yd with _ | _
  rotate_left
  · rw [show meetB xa ya xb yb xc yc xd yd = true by unfold meetB; rw [h0]; simp]; exact gRef8MeetT hI0 sxa sya sxb syb sxc syc sxd syd h0
  rcases h1 : contB xa ya xb yb xc yc with _ | _
  rotate_left
  · rw [show meetB xa ya xb yb xc yc xd yd = true by unfold meetB; rw [h0, h1]; simp]; exact gRef8MeetFT hI0 sxa sya sxb syb sxc syc sxd syd h0 h1
  rcases h2 : contB xa ya xb yb xd yd with _ | _
  rotate_left
  · rw [show meetB xa ya xb yb xc yc xd yd = true by unfold meetB; rw [h0, h1, h2]; simp]; exact gRef8MeetFFT hI0 sxa sya sxb syb sxc syc sxd syd h0 h1 h2
  rcases h3 : contB xc yc xd yd xa ya with _ | _
  rotate_left
  · rw [show meetB xa ya xb yb xc yc xd yd = true by unfold meetB; rw [h0, h1, h2, h3]; simp]; exact gRef8MeetFFFT hI0 sxa sya sxb syb sxc syc sxd syd h0 h1 h2 h3
  rcases h4 : contB xc yc xd yd xb yb with _ | _
  · rw [show meetB xa ya xb yb xc yc xd yd = false by unfold meetB; rw [h0, h1, h2, h3, h4]; rfl]; exact gRef8MeetFFFFF hI0 sxa sya sxb syb sxc syc sxd syd h0 h1 h2 h3 h4
  · rw [show meetB xa ya xb yb xc yc xd yd = true by unfold meetB; rw [h0, h1, h2, h3, h4]; simp]; exact gRef8MeetFFFFT hI0 sxa sya sxb syb sxc syc sxd syd h0 h1 h2 h3 h4
end Go.Proofs.YtckhgamojpbcgaaDoor
