/-
  Layer 15: DiscRadius. (Written by law15c.py.)
-/
import Derived.Test.YtehnpmkolabiaaaDoorLaw15
namespace Go.Proofs.YtehnpmkolabiaaaDoor
open Go.RowKit Go.Maps
set_option maxRecDepth 100000
set_option linter.unusedVariables false
set_option linter.unusedSimpArgs false

theorem u16_of_wf {a : Int} (h : (Lit.int .u16 a).wf = true) : 0 ≤ a ∧ a < 65536 := by
  simp [Lit.wf, IntKind.min, IntKind.max, IntKind.signed, IntKind.bits] at h
  omega
theorem i32_of_wf {a : Int} (h : (Lit.int .i32 a).wf = true) : -2147483648 ≤ a ∧ a < 2147483648 := by
  simp [Lit.wf, IntKind.min, IntKind.max, IntKind.signed, IntKind.bits] at h
  omega
theorem tdiv4_bd {x : Int} (h : S x) : -2305843009213693952 ≤ x.tdiv 4 ∧ x.tdiv 4 ≤ 2305843009213693951 := by
  unfold S at h
  rcases Int.le_total 0 x with h0 | h0
  · rw [Int.tdiv_eq_ediv_of_nonneg h0]; omega
  · obtain ⟨y, rfl⟩ : ∃ y, x = -y := ⟨-x, by omega⟩
    rw [Int.neg_tdiv, Int.tdiv_eq_ediv_of_nonneg (by omega)]; omega
theorem tmod_bd (a : Int) : -999999 ≤ a.tmod 1000000 ∧ a.tmod 1000000 ≤ 999999 := by
  rcases Int.le_total 0 a with h0 | h0
  · rw [Int.tmod_eq_emod_of_nonneg h0]; omega
  · obtain ⟨y, rfl⟩ : ∃ y, a = -y := ⟨-a, by omega⟩
    rw [Int.neg_tmod, Int.tmod_eq_emod_of_nonneg (by omega)]; omega
theorem sq_bd {u B : Int} (h : -B ≤ u ∧ u ≤ B) (hB : 0 ≤ B) : 0 ≤ u * u ∧ u * u ≤ B * B := by
  rcases Int.le_total 0 u with h0 | h0
  · exact ⟨Int.mul_nonneg h0 h0, Int.mul_le_mul h.2 h.2 h0 hB⟩
  · exact ⟨Int.mul_nonneg_of_nonpos_of_nonpos h0 h0, by rw [← Int.neg_mul_neg]; exact Int.mul_le_mul (by omega) (by omega) (by omega) hB⟩
set_option maxHeartbeats 1000000 in
theorem law_discRadius (C : Pt) (k a b : Int) (w : World) (hw : Wts w) (hC : S C.x ∧ S C.y) (hk0 : 0 ≤ k) (hk1 : k < 65536) (ha : -2147483648 ≤ a ∧ a < 2147483648) (hb : -2147483648 ≤ b ∧ b < 2147483648) :
    Calls Tryd.prog 8 #[.agg #[.int .i64 C.x, .int .i64 C.y], .int .u16 k, .agg #[.int .i32 a, .int .i32 b]] w fun e w' => e = .returned (.bool true) ∧ Below w.heap.size w w' := by
  obtain ⟨x, hx⟩ : ∃ x, C.x.tdiv 4 = x := ⟨_, rfl⟩
  obtain ⟨y, hy⟩ : ∃ y, C.y.tdiv 4 = y := ⟨_, rfl⟩
  have hx1 := tdiv4_bd hC.1
  have hy1 := tdiv4_bd hC.2
  rw [hx] at hx1
  rw [hy] at hy1
  obtain ⟨n, hn⟩ : ∃ n, IntKind.i64.wrap (k + 1) = n := ⟨_, rfl⟩
  have hn1 : 1 ≤ n ∧ n ≤ 65536 := by rw [← hn, wrap_s]; omega
  obtain ⟨u, hu⟩ : ∃ u, a.tmod 1000000 = u := ⟨_, rfl⟩
  obtain ⟨v, hv⟩ : ∃ v, b.tmod 1000000 = v := ⟨_, rfl⟩
  have hu1 := tmod_bd a
  have hv1 := tmod_bd b
  rw [hu] at hu1
  rw [hv] at hv1
  have hU := sq_bd (B := 999999) hu1 (by decide)
  have hV := sq_bd (B := 999999) hv1 (by decide)
  have hN := sq_bd (u := n) (B := 65536) ⟨by omega, hn1.2⟩ (by decide)
  obtain ⟨U2, hU2⟩ : ∃ U2, u * u = U2 := ⟨_, rfl⟩
  obtain ⟨V2, hV2⟩ : ∃ V2, v * v = V2 := ⟨_, rfl⟩
  obtain ⟨N2, hN2⟩ : ∃ N2, 25 * n * n = N2 := ⟨_, rfl⟩
  have hNb : 0 ≤ N2 ∧ N2 ≤ 107374182400 := by rw [← hN2, Int.mul_assoc]; omega
  rw [hU2] at hU
  rw [hV2] at hV
  obtain ⟨d, hd⟩ : ∃ d, U2 + V2 - N2 = d := ⟨_, rfl⟩
  have w1 : IntKind.i64.wrap x = x := wrap_i64' (by omega) (by omega)
  have w2 : IntKind.i64.wrap y = y := wrap_i64' (by omega) (by omega)
  have w3 : IntKind.i64.wrap (u * u) = U2 := by rw [hU2]; exact wrap_i64' (by omega) (by omega)
  have w4 : IntKind.i64.wrap (v * v) = V2 := by rw [hV2]; exact wrap_i64' (by omega) (by omega)
  have w5 : IntKind.i64.wrap (25 * n) = 25 * n := wrap_i64' (by omega) (by omega)
  have w6 : IntKind.i64.wrap (25 * n * n) = N2 := by rw [hN2]; exact wrap_i64' (by omega) (by omega)
  have w7 : IntKind.i64.wrap (U2 + V2) = U2 + V2 := wrap_i64' (by omega) (by omega)
  have w8 : IntKind.i64.wrap (U2 + V2 - N2) = d := by rw [hd]; exact wrap_i64' (by omega) (by omega)
  have w9 : IntKind.i64.wrap (5 * n) = 5 * n := wrap_i64' (by omega) (by omega)
  have w10 : IntKind.i64.wrap (3 * n) = 3 * n := wrap_i64' (by omega) (by omega)
  have w11 : IntKind.i64.wrap (4 * n) = 4 * n := wrap_i64' (by omega) (by omega)
  have w12 : IntKind.i64.wrap (x + 5 * n) = x + 5 * n := wrap_i64' (by omega) (by omega)
  have w13 : IntKind.i64.wrap (x - 3 * n) = x - 3 * n := wrap_i64' (by omega) (by omega)
  have w14 : IntKind.i64.wrap (y + 4 * n) = y + 4 * n := wrap_i64' (by omega) (by omega)
  have w15 : IntKind.i64.wrap (y - 5 * n) = y - 5 * n := wrap_i64' (by omega) (by omega)
  have w16 : IntKind.i64.wrap u = u := wrap_i64' (by omega) (by omega)
  have w17 : IntKind.i64.wrap v = v := wrap_i64' (by omega) (by omega)
  have w18 : IntKind.i64.wrap (x + u) = x + u := wrap_i64' (by omega) (by omega)
  have w19 : IntKind.i64.wrap (y + v) = y + v := wrap_i64' (by omega) (by omega)
  have w20 : IntKind.i32.wrap u = u := by rw [IntKind.wrap_i32]; omega
  have w21 : IntKind.i32.wrap v = v := by rw [IntKind.wrap_i32]; omega
  have w22 : IntKind.i64.wrap k = k := wrap_i64' (by omega) (by omega)
  have HSS := Lib.hid (show SsP [⟨x + 5 * n, y⟩, ⟨x - 3 * n, y + 4 * n⟩, ⟨x, y - 5 * n⟩] from ss3 (by unfold S; simp only; omega) (by unfold S; simp only; omega) (by unfold S; simp only; omega))
  have HP := Lib.hid (show S (x + u) ∧ S (y + v) by unfold S; omega)
  have HV := Lib.hid (show validD [⟨x + 5 * n, y⟩, ⟨x - 3 * n, y + 4 * n⟩, ⟨x, y - 5 * n⟩] = true by
    show (true && (sgnP ⟨x + 5 * n, y⟩ ⟨x - 3 * n, y + 4 * n⟩ ⟨x, y - 5 * n⟩ != 0)) = true
    rw [radius_sgn hn1.1]; rfl)
  have HL := Lib.hid (show locD [⟨x + 5 * n, y⟩, ⟨x - 3 * n, y + 4 * n⟩, ⟨x, y - 5 * n⟩] ⟨x + u, y + v⟩ = -d.sign by
    show sideC ⟨x + 5 * n, y⟩ ⟨x - 3 * n, y + 4 * n⟩ ⟨x, y - 5 * n⟩ ⟨x + u, y + v⟩ = _
    rw [radius_side hn1.1, hU2, hV2, hN2, hd])
  obtain ⟨W, hW⟩ : ∃ W, W = (w.alloc (.cells #[.int .i64 C.x, .int .i64 C.y] 24)).alloc (.cells #[.int .i32 a, .int .i32 b] 44) := ⟨_, rfl⟩
  obtain ⟨bc, hbc⟩ : ∃ b, b = w.heap.size := ⟨_, rfl⟩
  obtain ⟨bb, hbb⟩ : ∃ b, b = w.heap.size + 1 := ⟨_, rfl⟩
  have h0 : Below w.heap.size w W := by rw [hW]; exact ((Below.refl _ _).alloc (Nat.le_refl _) _).alloc (by simp) _
  have kc0 : W.cell? ⟨bc, 0, none⟩ = some (.int .i64 C.x) := by rw [hW, hbc]; simp [go_sem]
  have kc1 : W.cell? ⟨bc, 1, none⟩ = some (.int .i64 C.y) := by rw [hW, hbc]; simp [go_sem]
  have kb0 : W.cell? ⟨bb, 0, none⟩ = some (.int .i32 a) := by rw [hW, hbb]; simp [go_sem]
  have kb1 : W.cell? ⟨bb, 1, none⟩ = some (.int .i32 b) := by rw [hW, hbb]; simp [go_sem]
  have HW := Lib.hid hW
  have Hbc := Lib.hid hbc
  have Hbb := Lib.hid hbb
  have hk2 : 0 ≤ k ∧ k < 65536 := ⟨hk0, hk1⟩
  obtain ⟨cx, cy⟩ := C
  simp only at hx hy kc0 kc1 HW
  clear hU2 hV2 hN2 hd hN hC hW hbc hbb
  go_enter Tryd.func8, Tryd.ntmps8
  go_upto_region 1 with (fail)
  rw [← HW.out, ← Hbb.out, ← Hbc.out]
  go_quiet (fail)
  go_wp2
  obtain ⟨W2, hW2⟩ : ∃ W2, W2 = (W.drewN nq).alloc (.cells #[.int .i64 (x + 5 * n), .int .i64 y, .int .i64 (x - 3 * n), .int .i64 (y + 4 * n), .int .i64 x, .int .i64 (y - 5 * n)] 24) := ⟨_, rfl⟩
  obtain ⟨br, hbr⟩ : ∃ br, br = W.heap.size := ⟨_, rfl⟩
  rw [← hW2, ← hbr]
  have hrow : RowR W2 (fun g => W.heap.size ≤ g) 2 ptC (some ⟨br, 0, none⟩) [⟨x + 5 * n, y⟩, ⟨x - 3 * n, y + 4 * n⟩, ⟨x, y - 5 * n⟩] := by
    rw [hW2, hbr]
    exact row_lit (w := W.drewN nq) (C := ptC) (fun _ => rfl) [⟨x + 5 * n, y⟩, ⟨x - 3 * n, y + 4 * n⟩, ⟨x, y - 5 * n⟩]
  have hb2 : Below W.heap.size W W2 := by rw [hW2]; exact (below_drewN' (Below.refl _ _) nq).alloc (Nat.le_refl _) _
  have kb0 := (hb2.cell (p := ⟨bb, 0, none⟩) (lt_of_cell kb0)).trans kb0
  have kb1 := (hb2.cell (p := ⟨bb, 1, none⟩) (lt_of_cell kb1)).trans kb1
  have h2 := h0.trans (hb2.mono h0.size)
  clear hW2 hbr kc0 kc1
  go_quiet (fail)
  have hrow : RowR (W2.drewN _) _ 2 ptC _ _ := hrow.drewN_ nq
  have h3 := below_drewN' h2 nq
  have hcase : d < 0 ∨ 0 < d ∨ d = 0 := by omega
  rcases hcase with hcase | hcase | hcase
  · have e1 : decide (d < 0) = true := decide_eq_true (by omega)
    have e2 : decide (0 < d) = false := decide_eq_false (by omega)
    have HL2 := Lib.hid (show locD [⟨x + 5 * n, y⟩, ⟨x - 3 * n, y + 4 * n⟩, ⟨x, y - 5 * n⟩] ⟨x + u, y + v⟩ = 1 by rw [HL.out]; rw [Int.sign_eq_neg_one_of_neg hcase]; rfl)
    clear hcase
    go_wp2_with (fail)
    refine (alive15_any _ (hw.below h3)).mono ?_
    rintro e w6 ⟨rfl, hb6⟩
    have h6 := h3.trans (hb6.mono h3.size)
    have hrow := hrow.next hb6
    go_wp2_with (fail)
    refine (discValid_n (l := [⟨x + 5 * n, y⟩, ⟨x - 3 * n, y + 4 * n⟩, ⟨x, y - 5 * n⟩]) (hw.below h6) hrow rfl HSS.out HV.out).mono ?_
    rintro e w7 ⟨rfl, hb7⟩
    rw [show mk true = 18446744073709551615 from rfl]
    have h7 := h6.trans (hb7.mono h6.size)
    have hrow := hrow.next hb7
    go_wp2_with (fail)
    refine (discLocate_n (l := [⟨x + 5 * n, y⟩, ⟨x - 3 * n, y + 4 * n⟩, ⟨x, y - 5 * n⟩]) (p := ⟨x + u, y + v⟩) (hw.below h7) hrow rfl HSS.out HP.out HL2.out).mono ?_
    rintro e w8 ⟨rfl, hb8⟩
    go_wp2
    go_ret
    exact ⟨rfl, h7.trans (hb8.mono h7.size)⟩
  · have e1 : decide (d < 0) = false := decide_eq_false (by omega)
    have e2 : decide (0 < d) = true := decide_eq_true (by omega)
    have HL2 := Lib.hid (show locD [⟨x + 5 * n, y⟩, ⟨x - 3 * n, y + 4 * n⟩, ⟨x, y - 5 * n⟩] ⟨x + u, y + v⟩ = -1 by rw [HL.out]; rw [Int.sign_eq_one_of_pos hcase])
    clear hcase
    go_wp2_with (fail)
    refine (alive15_any _ (hw.below h3)).mono ?_
    rintro e w6 ⟨rfl, hb6⟩
    have h6 := h3.trans (hb6.mono h3.size)
    have hrow := hrow.next hb6
    go_wp2_with (fail)
    refine (discValid_n (l := [⟨x + 5 * n, y⟩, ⟨x - 3 * n, y + 4 * n⟩, ⟨x, y - 5 * n⟩]) (hw.below h6) hrow rfl HSS.out HV.out).mono ?_
    rintro e w7 ⟨rfl, hb7⟩
    rw [show mk true = 18446744073709551615 from rfl]
    have h7 := h6.trans (hb7.mono h6.size)
    have hrow := hrow.next hb7
    go_wp2_with (fail)
    refine (discLocate_n (l := [⟨x + 5 * n, y⟩, ⟨x - 3 * n, y + 4 * n⟩, ⟨x, y - 5 * n⟩]) (p := ⟨x + u, y + v⟩) (hw.below h7) hrow rfl HSS.out HP.out HL2.out).mono ?_
    rintro e w8 ⟨rfl, hb8⟩
    go_wp2
    go_ret
    exact ⟨rfl, h7.trans (hb8.mono h7.size)⟩
  · have e1 : decide (d < 0) = false := decide_eq_false (by omega)
    have e2 : decide (0 < d) = false := decide_eq_false (by omega)
    have HL2 := Lib.hid (show locD [⟨x + 5 * n, y⟩, ⟨x - 3 * n, y + 4 * n⟩, ⟨x, y - 5 * n⟩] ⟨x + u, y + v⟩ = 0 by rw [HL.out]; rw [hcase]; rfl)
    clear hcase
    go_wp2_with (fail)
    refine (alive15_any _ (hw.below h3)).mono ?_
    rintro e w6 ⟨rfl, hb6⟩
    have h6 := h3.trans (hb6.mono h3.size)
    have hrow := hrow.next hb6
    go_wp2_with (fail)
    refine (discValid_n (l := [⟨x + 5 * n, y⟩, ⟨x - 3 * n, y + 4 * n⟩, ⟨x, y - 5 * n⟩]) (hw.below h6) hrow rfl HSS.out HV.out).mono ?_
    rintro e w7 ⟨rfl, hb7⟩
    rw [show mk true = 18446744073709551615 from rfl]
    have h7 := h6.trans (hb7.mono h6.size)
    have hrow := hrow.next hb7
    go_wp2_with (fail)
    refine (discLocate_n (l := [⟨x + 5 * n, y⟩, ⟨x - 3 * n, y + 4 * n⟩, ⟨x, y - 5 * n⟩]) (p := ⟨x + u, y + v⟩) (hw.below h7) hrow rfl HSS.out HP.out HL2.out).mono ?_
    rintro e w8 ⟨rfl, hb8⟩
    go_wp2
    go_ret
    exact ⟨rfl, h7.trans (hb8.mono h7.size)⟩
end Go.Proofs.YtehnpmkolabiaaaDoor
