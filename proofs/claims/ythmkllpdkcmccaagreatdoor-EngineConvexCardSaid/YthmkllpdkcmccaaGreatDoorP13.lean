/-
  Packed texts: HdrA, HdrB, HdrE, CodC1, GrewC, EngA.
-/
import Derived.Test.YthmkllpdkcmccaaGreatDoorP12
namespace Go.Proofs.YthmkllpdkcmccaaGreatDoor
open Go.RowKit Go.Maps
set_option maxRecDepth 100000
set_option linter.unusedVariables false
set_option linter.unusedSimpArgs false

theorem isOp_h (x : Int) (r : Bool) (w : World) (hr : decide (1 ≤ x ∧ x ≤ 5) = r) :
    Calls Tryz.prog 93 #[.int .i64 x] w fun e w' => e = .returned (.bool r) ∧ w' = w := by
  by_cases h1 : 1 ≤ x
  · by_cases h2 : x ≤ 5
    · obtain rfl : true = r := by rw [← hr]; exact (decide_eq_true ⟨h1, h2⟩).symm
      clear hr
      go_enter Tryz.func93, Tryz.ntmps93
      go_wp2
      go_ret
      exact ⟨rfl, rfl⟩
    · obtain rfl : false = r := by rw [← hr]; exact (decide_eq_false fun h => h2 h.2).symm
      clear hr
      go_enter Tryz.func93, Tryz.ntmps93
      go_wp2
      go_ret
      exact ⟨rfl, rfl⟩
  · obtain rfl : false = r := by rw [← hr]; exact (decide_eq_false fun h => h1 h.1).symm
    clear hr
    go_enter Tryz.func93, Tryz.ntmps93
    go_wp2
    go_ret
    exact ⟨rfl, rfl⟩
theorem isPoly_h (x : Int) (r : Bool) (w : World) (hr : decide (3 ≤ x ∧ x ≤ 64) = r) :
    Calls Tryz.prog 94 #[.int .i64 x] w fun e w' => e = .returned (.bool r) ∧ w' = w := by
  by_cases h1 : 3 ≤ x
  · by_cases h2 : x ≤ 64
    · obtain rfl : true = r := by rw [← hr]; exact (decide_eq_true ⟨h1, h2⟩).symm
      clear hr
      go_enter Tryz.func94, Tryz.ntmps94
      go_wp2
      go_ret
      exact ⟨rfl, rfl⟩
    · obtain rfl : false = r := by rw [← hr]; exact (decide_eq_false fun h => h2 h.2).symm
      clear hr
      go_enter Tryz.func94, Tryz.ntmps94
      go_wp2
      go_ret
      exact ⟨rfl, rfl⟩
  · obtain rfl : false = r := by rw [← hr]; exact (decide_eq_false fun h => h1 h.1).symm
    clear hr
    go_enter Tryz.func94, Tryz.ntmps94
    go_wp2
    go_ret
    exact ⟨rfl, rfl⟩
theorem isFence_h (x : Int) (r : Bool) (w : World) (hr : decide (1 ≤ x ∧ x ≤ 64) = r) :
    Calls Tryz.prog 95 #[.int .i64 x] w fun e w' => e = .returned (.bool r) ∧ w' = w := by
  by_cases h1 : 1 ≤ x
  · by_cases h2 : x ≤ 64
    · obtain rfl : true = r := by rw [← hr]; exact (decide_eq_true ⟨h1, h2⟩).symm
      clear hr
      go_enter Tryz.func95, Tryz.ntmps95
      go_wp2
      go_ret
      exact ⟨rfl, rfl⟩
    · obtain rfl : false = r := by rw [← hr]; exact (decide_eq_false fun h => h2 h.2).symm
      clear hr
      go_enter Tryz.func95, Tryz.ntmps95
      go_wp2
      go_ret
      exact ⟨rfl, rfl⟩
  · obtain rfl : false = r := by rw [← hr]; exact (decide_eq_false fun h => h1 h.1).symm
    clear hr
    go_enter Tryz.func95, Tryz.ntmps95
    go_wp2
    go_ret
    exact ⟨rfl, rfl⟩
theorem isBatch_h (x : Int) (r : Bool) (w : World) (hr : decide (1 ≤ x ∧ x ≤ 4096) = r) :
    Calls Tryz.prog 97 #[.int .i64 x] w fun e w' => e = .returned (.bool r) ∧ w' = w := by
  by_cases h1 : 1 ≤ x
  · by_cases h2 : x ≤ 4096
    · obtain rfl : true = r := by rw [← hr]; exact (decide_eq_true ⟨h1, h2⟩).symm
      clear hr
      go_enter Tryz.func97, Tryz.ntmps97
      go_wp2
      go_ret
      exact ⟨rfl, rfl⟩
    · obtain rfl : false = r := by rw [← hr]; exact (decide_eq_false fun h => h2 h.2).symm
      clear hr
      go_enter Tryz.func97, Tryz.ntmps97
      go_wp2
      go_ret
      exact ⟨rfl, rfl⟩
  · obtain rfl : false = r := by rw [← hr]; exact (decide_eq_false fun h => h1 h.1).symm
    clear hr
    go_enter Tryz.func97, Tryz.ntmps97
    go_wp2
    go_ret
    exact ⟨rfl, rfl⟩
theorem usesV_h (x : Int) (r : Bool) (w : World) (hr : (x == 3) = r) :
    Calls Tryz.prog 77 #[.int .i64 x] w fun e w' => e = .returned (.bool r) ∧ w' = w := by
  go_enter Tryz.func77, Tryz.ntmps77
  go_wp2
  go_ret
  exact ⟨rfl, rfl⟩
theorem usesP_h (x : Int) (r : Bool) (w : World) (hr : (x == 5) = r) :
    Calls Tryz.prog 80 #[.int .i64 x] w fun e w' => e = .returned (.bool r) ∧ w' = w := by
  go_enter Tryz.func80, Tryz.ntmps80
  go_wp2
  go_ret
  exact ⟨rfl, rfl⟩
theorem usesR_h (x : Int) (r : Bool) (w : World) (hr : (x == 4 || x == 5) = r) :
    Calls Tryz.prog 78 #[.int .i64 x] w fun e w' => e = .returned (.bool r) ∧ w' = w := by
  by_cases h1 : x = 4
  · obtain rfl : true = r := by rw [← hr, h1]; rfl
    have d1 : (x == 4) = true := by rw [beq_iff_eq]; exact h1
    clear hr h1
    go_enter Tryz.func78, Tryz.ntmps78
    go_wp2
    go_ret
    exact ⟨rfl, rfl⟩
  · have d1 : (x == 4) = false := by rw [beq_eq_false_iff_ne]; exact h1
    rw [d1, Bool.false_or] at hr
    clear h1
    go_enter Tryz.func78, Tryz.ntmps78
    go_wp2
    go_ret
    exact ⟨rfl, rfl⟩
theorem anyBad_take1 {rs : List Rg} {k : Nat} (h : k < rs.length) : anyBad ((rs.take (k + 1)).map rgK) = (anyBad ((rs.take k).map rgK) || decide (sizeF (rs[k]).v = 0)) := by
  rw [List.take_succ_eq_append_getElem h, List.map_append]; unfold anyBad; rw [List.any_append]; simp [rgK]
theorem anyBad_of_take {rs : List Rg} {k : Nat} (h : anyBad ((rs.take k).map rgK) = true) : anyBad (rs.map rgK) = true := by
  unfold anyBad at h ⊢
  rw [List.any_eq_true] at h ⊢
  obtain ⟨x, hx, hb⟩ := h
  obtain ⟨y, hy, rfl⟩ := List.mem_map.1 hx
  exact ⟨_, List.mem_map.2 ⟨y, List.mem_of_mem_take hy, rfl⟩, hb⟩
/-- The loop of areRegions. -/
def ARelH (w : World) (rs : List Rg) (i : Value) (wr : World) : Prop := ∃ k : Nat, i = .int .i64 k ∧ k ≤ rs.length ∧ anyBad ((rs.take k).map rgK) = false ∧ Below w.heap.size w wr
set_option maxHeartbeats 1000000 in
theorem areRegs_h (A : Option Addr) (n c : Nat) (rs : List Rg) (r : Bool) (T : Nat → Prop) (w : World) (ha : RowR w T 3 rgC A rs) (hv : ∀ x ∈ rs, S x.v) (hn : n = rs.length) (hl : n ≤ 9223372036854775807) (hr : (!anyBad (rs.map rgK)) = r) :
    Calls Tryz.prog 96 #[.slice A n c] w fun e w' => e = .returned (.bool r) ∧ Below w.heap.size w w' := by
  have HN := Lib.hid hn
  have HR := Lib.hid hr
  have HV := Lib.hid hv
  have ha := ha.now (fun _ => Nat.succ_pos 2)
  clear hr hn hv
  go_enter Tryz.func96, Tryz.ntmps96
  go_wp2
  go_loopw [7] (fun i wr => ARelH w rs i wr) (fun i _ => n - (intOf i).toNat)
  case atStart => exact ⟨0, rfl, Nat.zero_le _, rfl, Below.refl _ _⟩
  case round =>
    obtain ⟨k, rfl, hk, hc0, hb⟩ := hrel
    rw [← HN.out] at hk
    have HC := Lib.hid hc0
    clear hc0
    by_cases hgo : k < n
    · have hgo2 : k < rs.length := by rw [← HN.out]; exact hgo
      obtain ⟨b, o, rfl, ⟨hSb, hbl⟩, c0, c1, c2⟩ := ha.rg2 hgo2
      have c0 := (hb.cell (p := ⟨b, o + k * 3, none⟩) hbl).trans c0
      have c1 := (hb.cell (p := ⟨b, o + k * 3 + 1, none⟩) hbl).trans c1
      have c2 := (hb.cell (p := ⟨b, o + k * 3 + 2, none⟩) hbl).trans c2
      have HSv := Lib.hid (HV.out _ (List.getElem_mem hgo2))
      obtain ⟨z, hz⟩ : ∃ z, sizeF (rs[k]'hgo2).v = z := ⟨_, rfl⟩
      have HZ := Lib.hid (show anyBad ((rs.take (k + 1)).map rgK) = decide (z = 0) by rw [anyBad_take1 hgo2, HC.out, hz]; rfl)
      have HZs := Lib.hid hz
      clear hz
      generalize rs[k]'hgo2 = g at *
      obtain ⟨d, v, A2, cp, l⟩ := g
      have hSv2 := HSv.out
      simp only at c0 c1 c2 hSv2
      obtain ⟨m, hm⟩ : ∃ m, m = l.length := ⟨_, rfl⟩
      rw [← hm] at c2
      obtain ⟨W, hW⟩ : ∃ W, W = wr.alloc (.cells #[.bool d, .int .i64 v, .slice A2 m cp] 53) := ⟨_, rfl⟩
      obtain ⟨B, hB⟩ : ∃ B, B = wr.heap.size := ⟨_, rfl⟩
      have h0 : Below wr.heap.size wr W := by rw [hW]; exact (Below.refl _ _).alloc (Nat.le_refl _) _
      have k0 : W.cell? ⟨B, 0, none⟩ = some (.bool d) := by rw [hW, hB]; simp [go_sem]
      have k1 : W.cell? ⟨B, 1, none⟩ = some (.int .i64 v) := by rw [hW, hB]; simp [go_sem]
      have k2 : W.cell? ⟨B, 2, none⟩ = some (.slice A2 m cp) := by rw [hW, hB]; simp [go_sem]
      have hbW := hb.trans (h0.mono hb.size)
      have HW := Lib.hid hW
      have HB := Lib.hid hB
      clear hW hB hm hgo2 ha
      go_wp2_with (fail)
      rw [← HW.out, ← HB.out]
      refine (fenceSize_c d v (.slice A2 m cp) z W hSv2 HZs.out).mono ?_
      rintro e w1 ⟨rfl, h1⟩
      have h2 := hbW.trans (h1.mono hbW.size)
      clear c0 c1 c2 k0 k1 k2
      by_cases ez : z = 0
      · have HE := Lib.hid (show r = false by rw [← HR.out, anyBad_of_take (by rw [HZ.out, decide_eq_true ez])]; rfl)
        subst ez
        go_wp2
        go_ret
        exact ⟨by rw [HE.out]; rfl, h2⟩
      · have ez2 : (z == 0) = false := by rw [beq_eq_false_iff_ne]; exact ez
        have HE := Lib.hid (show anyBad ((rs.take (k + 1)).map rgK) = false by rw [HZ.out, decide_eq_false ez])
        clear ez
        go_wp2
        go_roundw
        case rel => exact ⟨k + 1, by go_num, by rw [← HN.out]; omega, HE.out, h2⟩
        case measure => simp [intOf]; omega
    · have HE := Lib.hid (show r = true by
        have : rs.take k = rs := List.take_of_length_le (by rw [← HN.out]; omega)
        rw [← HR.out, ← this, HC.out]; rfl)
      go_wp2
      go_ret
      exact ⟨by rw [HE.out]; rfl, hb⟩
theorem rgP_take1 {rs : List Rg} {k : Nat} (h : k < rs.length) : rgP (rs.take (k + 1)) = (rgP (rs.take k) || decide (0 < (rs[k]).l.length)) := by
  rw [List.take_succ_eq_append_getElem h]; unfold rgP; rw [List.any_append]; simp
theorem rgP_ofH {rs : List Rg} {k : Nat} (h : rgP (rs.take k) = true) : rgP rs = true := by
  unfold rgP at h ⊢
  rw [List.any_eq_true] at h ⊢
  obtain ⟨x, hx, hb⟩ := h
  exact ⟨x, List.mem_of_mem_take hx, hb⟩
def URelH (w W : World) (rs : List Rg) (i : Value) (wr : World) : Prop := ∃ k : Nat, i = .int .i64 k ∧ k ≤ rs.length ∧ rgP (rs.take k) = false ∧ Below W.heap.size W wr
set_option maxHeartbeats 4000000 in
theorem hasUn_h (op vs pts : Int) (A : Option Addr) (n c : Nat) (rs : List Rg) (r : Bool) (T : Nat → Prop) (w : World) (ha : RowR w T 3 rgC A rs) (hn : n = rs.length) (hl : n ≤ 9223372036854775807) (hop : 1 ≤ op ∧ op ≤ 5) (hr : (rgP rs || unusedH ⟨op, vs, rs.map rgK, pts⟩) = r) :
    Calls Tryz.prog 98 #[.agg #[.int .i64 op, .int .i64 vs, .slice A n c, .int .i64 pts]] w fun e w' => e = .returned (.bool r) ∧ Below w.heap.size w w' := by
  obtain ⟨W0, hW0⟩ : ∃ W, W = w.alloc (.cells #[.int .i64 op, .int .i64 vs, .slice A n c, .int .i64 pts] 37) := ⟨_, rfl⟩
  obtain ⟨q0, _, g0, g1, g2, g3⟩ := box4 hW0
  obtain ⟨bg, hbg⟩ : ∃ b, b = w.heap.size := ⟨_, rfl⟩
  rw [← hbg] at g0 g1 g2 g3
  have HW0 := Lib.hid hW0
  have Hbg := Lib.hid hbg
  have HN := Lib.hid hn
  have HR := Lib.hid hr
  have ha := (ha.next q0).now (fun _ => Nat.succ_pos 2)
  clear hW0 hbg hr hn
  go_enter Tryz.func98, Tryz.ntmps98
  go_upto_region 1 with (fail)
  rw [← HW0.out, ← Hbg.out]
  go_wp2
  go_loopw [8] (fun i wr => URelH w W0 rs i wr) (fun i _ => n - (intOf i).toNat)
  case atStart => exact ⟨0, rfl, Nat.zero_le _, rfl, Below.refl _ _⟩
  case round =>
    obtain ⟨k, rfl, hk, hc0, hb⟩ := hrel
    rw [← HN.out] at hk
    have HC := Lib.hid hc0
    clear hc0
    have g0 := (hb.cell (p := ⟨bg, 0, none⟩) (lt_of_cell g0)).trans g0
    have g1 := (hb.cell (p := ⟨bg, 1, none⟩) (lt_of_cell g1)).trans g1
    have g2 := (hb.cell (p := ⟨bg, 2, none⟩) (lt_of_cell g2)).trans g2
    have g3 := (hb.cell (p := ⟨bg, 3, none⟩) (lt_of_cell g3)).trans g3
    by_cases hgo : k < n
    · have hgo2 : k < rs.length := by rw [← HN.out]; exact hgo
      obtain ⟨b, o, rfl, ⟨hSb, hbl⟩, c0, c1, c2⟩ := ha.rg2 hgo2
      have c0 := (hb.cell (p := ⟨b, o + k * 3, none⟩) hbl).trans c0
      have c1 := (hb.cell (p := ⟨b, o + k * 3 + 1, none⟩) hbl).trans c1
      have c2 := (hb.cell (p := ⟨b, o + k * 3 + 2, none⟩) hbl).trans c2
      have HZ := Lib.hid (rgP_take1 hgo2)
      generalize rs[k]'hgo2 = g at *
      obtain ⟨d, v, A2, cp, l⟩ := g
      have hZ2 := HZ.out
      simp only at c0 c1 c2 hZ2
      obtain ⟨m, hm⟩ : ∃ m, m = l.length := ⟨_, rfl⟩
      rw [← hm] at c2 hZ2
      have HZ3 := Lib.hid hZ2
      obtain ⟨W, hW⟩ : ∃ W, W = wr.alloc (.cells #[.bool d, .int .i64 v, .slice A2 m cp] 53) := ⟨_, rfl⟩
      obtain ⟨B, hB⟩ : ∃ B, B = wr.heap.size := ⟨_, rfl⟩
      have h0 : Below wr.heap.size wr W := by rw [hW]; exact (Below.refl _ _).alloc (Nat.le_refl _) _
      have k0 : W.cell? ⟨B, 0, none⟩ = some (.bool d) := by rw [hW, hB]; simp [go_sem]
      have k1 : W.cell? ⟨B, 1, none⟩ = some (.int .i64 v) := by rw [hW, hB]; simp [go_sem]
      have k2 : W.cell? ⟨B, 2, none⟩ = some (.slice A2 m cp) := by rw [hW, hB]; simp [go_sem]
      have hbW := hb.trans (h0.mono hb.size)
      have HW := Lib.hid hW
      have HB := Lib.hid hB
      clear hW hB hm hgo2 ha hZ2 HZ
      by_cases em : m = 0
      · subst em
        have HE := Lib.hid (show rgP (rs.take (k + 1)) = false by rw [HZ3.out, HC.out]; rfl)
        go_wp2
        go_roundw
        case rel => exact ⟨k + 1, by go_num, by rw [← HN.out]; omega, HE.out, by rw [HW.out] at hbW; exact hbW⟩
        case measure => simp [intOf]; omega
      · have em2 : ((m : Int) != 0) = true := by rw [bne_iff_ne]; omega
        have HE := Lib.hid (show r = true by rw [← HR.out, rgP_ofH (k := k + 1) (by rw [HZ3.out, HC.out, decide_eq_true (by omega)]; rfl)]; rfl)
        clear em
        go_wp2
        go_ret
        exact ⟨by rw [HE.out]; rfl, by rw [HW.out] at hbW; exact q0.trans (hbW.mono q0.size)⟩
    · have HP := Lib.hid (show unusedH ⟨op, vs, rs.map rgK, pts⟩ = r by
        have : rs.take k = rs := List.take_of_length_le (by rw [← HN.out]; omega)
        rw [← HR.out, ← this, HC.out, this]; rfl)
      clear ha hk
      rcases (show op = 1 ∨ op = 2 ∨ op = 3 ∨ op = 4 ∨ op = 5 by omega) with rfl | rfl | rfl | rfl | rfl
      · by_cases ev : vs = 0
        · have dv : (vs != 0) = false := by rw [bne_eq_false_iff_eq]; omega
          by_cases en : n = 0
          · have dn : ((n : Int) != 0) = false := by rw [bne_eq_false_iff_eq]; omega
            by_cases ep : pts = 0
            · have dp : (pts != 0) = false := by rw [bne_eq_false_iff_eq]; omega
              have HE := Lib.hid (show r = false by rw [← HP.out]; unfold unusedH; rw [List.length_map, ← HN.out]; simp [ev, en, ep] <;> omega)
              clear ev en ep
              go_wp2_with (fail)
              refine (usesV_h 1 false _ rfl).mono ?_
              rintro e w2_ ⟨rfl, hw2_⟩
              obtain rfl := hw2_.symm
              clear hw2_
              go_wp2_with (fail)
              refine (usesR_h 1 false _ rfl).mono ?_
              rintro e w2_ ⟨rfl, hw2_⟩
              obtain rfl := hw2_.symm
              clear hw2_
              go_wp2_with (fail)
              refine (usesP_h 1 false _ rfl).mono ?_
              rintro e w2_ ⟨rfl, hw2_⟩
              obtain rfl := hw2_.symm
              clear hw2_
              go_wp2
              go_ret
              exact ⟨by rw [HE.out]; rfl, q0.trans (hb.mono q0.size)⟩
            · have dp : (pts != 0) = true := by rw [bne_iff_ne]; omega
              have HE := Lib.hid (show r = true by rw [← HP.out]; unfold unusedH; rw [List.length_map, ← HN.out]; simp [ev, en, ep] <;> omega)
              clear ev en ep
              go_wp2_with (fail)
              refine (usesV_h 1 false _ rfl).mono ?_
              rintro e w2_ ⟨rfl, hw2_⟩
              obtain rfl := hw2_.symm
              clear hw2_
              go_wp2_with (fail)
              refine (usesR_h 1 false _ rfl).mono ?_
              rintro e w2_ ⟨rfl, hw2_⟩
              obtain rfl := hw2_.symm
              clear hw2_
              go_wp2_with (fail)
              refine (usesP_h 1 false _ rfl).mono ?_
              rintro e w2_ ⟨rfl, hw2_⟩
              obtain rfl := hw2_.symm
              clear hw2_
              go_wp2
              go_ret
              exact ⟨by rw [HE.out]; rfl, q0.trans (hb.mono q0.size)⟩
          · have dn : ((n : Int) != 0) = true := by rw [bne_iff_ne]; omega
            have HE := Lib.hid (show r = true by rw [← HP.out]; unfold unusedH; rw [List.length_map, ← HN.out]; simp [ev, en] <;> omega)
            clear ev en
            go_wp2_with (fail)
            refine (usesV_h 1 false _ rfl).mono ?_
            rintro e w2_ ⟨rfl, hw2_⟩
            obtain rfl := hw2_.symm
            clear hw2_
            go_wp2_with (fail)
            refine (usesR_h 1 false _ rfl).mono ?_
            rintro e w2_ ⟨rfl, hw2_⟩
            obtain rfl := hw2_.symm
            clear hw2_
            go_wp2
            go_ret
            exact ⟨by rw [HE.out]; rfl, q0.trans (hb.mono q0.size)⟩
        · have dv : (vs != 0) = true := by rw [bne_iff_ne]; omega
          have HE := Lib.hid (show r = true by rw [← HP.out]; unfold unusedH; rw [List.length_map, ← HN.out]; simp [ev] <;> omega)
          clear ev
          go_wp2_with (fail)
          refine (usesV_h 1 false _ rfl).mono ?_
          rintro e w2_ ⟨rfl, hw2_⟩
          obtain rfl := hw2_.symm
          clear hw2_
          go_wp2
          go_ret
          exact ⟨by rw [HE.out]; rfl, q0.trans (hb.mono q0.size)⟩
      · by_cases ev : vs = 0
        · have dv : (vs != 0) = false := by rw [bne_eq_false_iff_eq]; omega
          by_cases en : n = 0
          · have dn : ((n : Int) != 0) = false := by rw [bne_eq_false_iff_eq]; omega
            by_cases ep : pts = 0
            · have dp : (pts != 0) = false := by rw [bne_eq_false_iff_eq]; omega
              have HE := Lib.hid (show r = false by rw [← HP.out]; unfold unusedH; rw [List.length_map, ← HN.out]; simp [ev, en, ep] <;> omega)
              clear ev en ep
              go_wp2_with (fail)
              refine (usesV_h 2 false _ rfl).mono ?_
              rintro e w2_ ⟨rfl, hw2_⟩
              obtain rfl := hw2_.symm
              clear hw2_
              go_wp2_with (fail)
              refine (usesR_h 2 false _ rfl).mono ?_
              rintro e w2_ ⟨rfl, hw2_⟩
              obtain rfl := hw2_.symm
              clear hw2_
              go_wp2_with (fail)
              refine (usesP_h 2 false _ rfl).mono ?_
              rintro e w2_ ⟨rfl, hw2_⟩
              obtain rfl := hw2_.symm
              clear hw2_
              go_wp2
              go_ret
              exact ⟨by rw [HE.out]; rfl, q0.trans (hb.mono q0.size)⟩
            · have dp : (pts != 0) = true := by rw [bne_iff_ne]; omega
              have HE := Lib.hid (show r = true by rw [← HP.out]; unfold unusedH; rw [List.length_map, ← HN.out]; simp [ev, en, ep] <;> omega)
              clear ev en ep
              go_wp2_with (fail)
              refine (usesV_h 2 false _ rfl).mono ?_
              rintro e w2_ ⟨rfl, hw2_⟩
              obtain rfl := hw2_.symm
              clear hw2_
              go_wp2_with (fail)
              refine (usesR_h 2 false _ rfl).mono ?_
              rintro e w2_ ⟨rfl, hw2_⟩
              obtain rfl := hw2_.symm
              clear hw2_
              go_wp2_with (fail)
              refine (usesP_h 2 false _ rfl).mono ?_
              rintro e w2_ ⟨rfl, hw2_⟩
              obtain rfl := hw2_.symm
              clear hw2_
              go_wp2
              go_ret
              exact ⟨by rw [HE.out]; rfl, q0.trans (hb.mono q0.size)⟩
          · have dn : ((n : Int) != 0) = true := by rw [bne_iff_ne]; omega
            have HE := Lib.hid (show r = true by rw [← HP.out]; unfold unusedH; rw [List.length_map, ← HN.out]; simp [ev, en] <;> omega)
            clear ev en
            go_wp2_with (fail)
            refine (usesV_h 2 false _ rfl).mono ?_
            rintro e w2_ ⟨rfl, hw2_⟩
            obtain rfl := hw2_.symm
            clear hw2_
            go_wp2_with (fail)
            refine (usesR_h 2 false _ rfl).mono ?_
            rintro e w2_ ⟨rfl, hw2_⟩
            obtain rfl := hw2_.symm
            clear hw2_
            go_wp2
            go_ret
            exact ⟨by rw [HE.out]; rfl, q0.trans (hb.mono q0.size)⟩
        · have dv : (vs != 0) = true := by rw [bne_iff_ne]; omega
          have HE := Lib.hid (show r = true by rw [← HP.out]; unfold unusedH; rw [List.length_map, ← HN.out]; simp [ev] <;> omega)
          clear ev
          go_wp2_with (fail)
          refine (usesV_h 2 false _ rfl).mono ?_
          rintro e w2_ ⟨rfl, hw2_⟩
          obtain rfl := hw2_.symm
          clear hw2_
          go_wp2
          go_ret
          exact ⟨by rw [HE.out]; rfl, q0.trans (hb.mono q0.size)⟩
      · by_cases en : n = 0
        · have dn : ((n : Int) != 0) = false := by rw [bne_eq_false_iff_eq]; omega
          by_cases ep : pts = 0
          · have dp : (pts != 0) = false := by rw [bne_eq_false_iff_eq]; omega
            have HE := Lib.hid (show r = false by rw [← HP.out]; unfold unusedH; rw [List.length_map, ← HN.out]; simp [en, ep] <;> omega)
            clear en ep
            go_wp2_with (fail)
            refine (usesV_h 3 true _ rfl).mono ?_
            rintro e w2_ ⟨rfl, hw2_⟩
            obtain rfl := hw2_.symm
            clear hw2_
            go_wp2_with (fail)
            refine (usesR_h 3 false _ rfl).mono ?_
            rintro e w2_ ⟨rfl, hw2_⟩
            obtain rfl := hw2_.symm
            clear hw2_
            go_wp2_with (fail)
            refine (usesP_h 3 false _ rfl).mono ?_
            rintro e w2_ ⟨rfl, hw2_⟩
            obtain rfl := hw2_.symm
            clear hw2_
            go_wp2
            go_ret
            exact ⟨by rw [HE.out]; rfl, q0.trans (hb.mono q0.size)⟩
          · have dp : (pts != 0) = true := by rw [bne_iff_ne]; omega
            have HE := Lib.hid (show r = true by rw [← HP.out]; unfold unusedH; rw [List.length_map, ← HN.out]; simp [en, ep] <;> omega)
            clear en ep
            go_wp2_with (fail)
            refine (usesV_h 3 true _ rfl).mono ?_
            rintro e w2_ ⟨rfl, hw2_⟩
            obtain rfl := hw2_.symm
            clear hw2_
            go_wp2_with (fail)
            refine (usesR_h 3 false _ rfl).mono ?_
            rintro e w2_ ⟨rfl, hw2_⟩
            obtain rfl := hw2_.symm
            clear hw2_
            go_wp2_with (fail)
            refine (usesP_h 3 false _ rfl).mono ?_
            rintro e w2_ ⟨rfl, hw2_⟩
            obtain rfl := hw2_.symm
            clear hw2_
            go_wp2
            go_ret
            exact ⟨by rw [HE.out]; rfl, q0.trans (hb.mono q0.size)⟩
        · have dn : ((n : Int) != 0) = true := by rw [bne_iff_ne]; omega
          have HE := Lib.hid (show r = true by rw [← HP.out]; unfold unusedH; rw [List.length_map, ← HN.out]; simp [en] <;> omega)
          clear en
          go_wp2_with (fail)
          refine (usesV_h 3 true _ rfl).mono ?_
          rintro e w2_ ⟨rfl, hw2_⟩
          obtain rfl := hw2_.symm
          clear hw2_
          go_wp2_with (fail)
          refine (usesR_h 3 false _ rfl).mono ?_
          rintro e w2_ ⟨rfl, hw2_⟩
          obtain rfl := hw2_.symm
          clear hw2_
          go_wp2
          go_ret
          exact ⟨by rw [HE.out]; rfl, q0.trans (hb.mono q0.size)⟩
      · by_cases ev : vs = 0
        · have dv : (vs != 0) = false := by rw [bne_eq_false_iff_eq]; omega
          by_cases ep : pts = 0
          · have dp : (pts != 0) = false := by rw [bne_eq_false_iff_eq]; omega
            have HE := Lib.hid (show r = false by rw [← HP.out]; unfold unusedH; rw [List.length_map, ← HN.out]; simp [ev, ep] <;> omega)
            clear ev ep
            go_wp2_with (fail)
            refine (usesV_h 4 false _ rfl).mono ?_
            rintro e w2_ ⟨rfl, hw2_⟩
            obtain rfl := hw2_.symm
            clear hw2_
            go_wp2_with (fail)
            refine (usesR_h 4 true _ rfl).mono ?_
            rintro e w2_ ⟨rfl, hw2_⟩
            obtain rfl := hw2_.symm
            clear hw2_
            go_wp2_with (fail)
            refine (usesP_h 4 false _ rfl).mono ?_
            rintro e w2_ ⟨rfl, hw2_⟩
            obtain rfl := hw2_.symm
            clear hw2_
            go_wp2
            go_ret
            exact ⟨by rw [HE.out]; rfl, q0.trans (hb.mono q0.size)⟩
          · have dp : (pts != 0) = true := by rw [bne_iff_ne]; omega
            have HE := Lib.hid (show r = true by rw [← HP.out]; unfold unusedH; rw [List.length_map, ← HN.out]; simp [ev, ep] <;> omega)
            clear ev ep
            go_wp2_with (fail)
            refine (usesV_h 4 false _ rfl).mono ?_
            rintro e w2_ ⟨rfl, hw2_⟩
            obtain rfl := hw2_.symm
            clear hw2_
            go_wp2_with (fail)
            refine (usesR_h 4 true _ rfl).mono ?_
            rintro e w2_ ⟨rfl, hw2_⟩
            obtain rfl := hw2_.symm
            clear hw2_
            go_wp2_with (fail)
            refine (usesP_h 4 false _ rfl).mono ?_
            rintro e w2_ ⟨rfl, hw2_⟩
            obtain rfl := hw2_.symm
            clear hw2_
            go_wp2
            go_ret
            exact ⟨by rw [HE.out]; rfl, q0.trans (hb.mono q0.size)⟩
        · have dv : (vs != 0) = true := by rw [bne_iff_ne]; omega
          have HE := Lib.hid (show r = true by rw [← HP.out]; unfold unusedH; rw [List.length_map, ← HN.out]; simp [ev] <;> omega)
          clear ev
          go_wp2_with (fail)
          refine (usesV_h 4 false _ rfl).mono ?_
          rintro e w2_ ⟨rfl, hw2_⟩
          obtain rfl := hw2_.symm
          clear hw2_
          go_wp2
          go_ret
          exact ⟨by rw [HE.out]; rfl, q0.trans (hb.mono q0.size)⟩
      · by_cases ev : vs = 0
        · have dv : (vs != 0) = false := by rw [bne_eq_false_iff_eq]; omega
          have HE := Lib.hid (show r = false by rw [← HP.out]; unfold unusedH; rw [List.length_map, ← HN.out]; simp [ev] <;> omega)
          clear ev
          go_wp2_with (fail)
          refine (usesV_h 5 false _ rfl).mono ?_
          rintro e w2_ ⟨rfl, hw2_⟩
          obtain rfl := hw2_.symm
          clear hw2_
          go_wp2_with (fail)
          refine (usesR_h 5 true _ rfl).mono ?_
          rintro e w2_ ⟨rfl, hw2_⟩
          obtain rfl := hw2_.symm
          clear hw2_
          go_wp2_with (fail)
          refine (usesP_h 5 true _ rfl).mono ?_
          rintro e w2_ ⟨rfl, hw2_⟩
          obtain rfl := hw2_.symm
          clear hw2_
          go_wp2
          go_ret
          exact ⟨by rw [HE.out]; rfl, q0.trans (hb.mono q0.size)⟩
        · have dv : (vs != 0) = true := by rw [bne_iff_ne]; omega
          have HE := Lib.hid (show r = true by rw [← HP.out]; unfold unusedH; rw [List.length_map, ← HN.out]; simp [ev] <;> omega)
          clear ev
          go_wp2_with (fail)
          refine (usesV_h 5 false _ rfl).mono ?_
          rintro e w2_ ⟨rfl, hw2_⟩
          obtain rfl := hw2_.symm
          clear hw2_
          go_wp2
          go_ret
          exact ⟨by rw [HE.out]; rfl, q0.trans (hb.mono q0.size)⟩
end Go.Proofs.YthmkllpdkcmccaaGreatDoor
namespace Go.Proofs.YthmkllpdkcmccaaGreatDoor
open Go.RowKit Go.Maps
set_option maxRecDepth 100000
set_option linter.unusedVariables false
set_option linter.unusedSimpArgs false

theorem un_or (p u : Bool) : (if u = true then (2 : Int) else if p = true then 2 else 0) = if (p || u) = true then 2 else 0 := by cases p <;> cases u <;> rfl
set_option maxHeartbeats 4000000 in
theorem check_h (op vs pts : Int) (A : Option Addr) (n c : Nat) (rs : List Rg) (r : Int) (T : Nat → Prop) (w : World) (ha : RowR w T 3 rgC A rs) (hv : ∀ x ∈ rs, S x.v) (hn : n = rs.length) (hl : n ≤ 9223372036854775807) (hr : formErr ⟨op, vs, rs.map rgK, pts⟩ (rgP rs) = r) :
    Calls Tryz.prog 76 #[.agg #[.int .i64 op, .int .i64 vs, .slice A n c, .int .i64 pts]] w fun e w' => e = .returned (.int .i64 r) ∧ Below w.heap.size w w' := by
  obtain ⟨W0, hW0⟩ : ∃ W, W = w.alloc (.cells #[.int .i64 op, .int .i64 vs, .slice A n c, .int .i64 pts] 37) := ⟨_, rfl⟩
  obtain ⟨q0, _, g0, g1, g2, g3⟩ := box4 hW0
  obtain ⟨bg, hbg⟩ : ∃ b, b = w.heap.size := ⟨_, rfl⟩
  rw [← hbg] at g0 g1 g2 g3
  have HW0 := Lib.hid hW0
  have Hbg := Lib.hid hbg
  have HN := Lib.hid hn
  have HR := Lib.hid hr
  have ha0 := ha.next q0
  clear hW0 hbg hr hn ha
  go_enter Tryz.func76, Tryz.ntmps76
  go_upto_region 1 with (fail)
  rw [← HW0.out, ← Hbg.out]
  by_cases e0 : 1 ≤ op ∧ op ≤ 5
  · have hop : op = 1 ∨ op = 2 ∨ op = 3 ∨ op = 4 ∨ op = 5 := by omega
    clear e0
    rcases hop with rfl | rfl | rfl | rfl | rfl
    · have HR1 := Lib.hid (show r = ( if unusedH ⟨1, vs, rs.map rgK, pts⟩ = true then 2 else if rgP rs = true then 2 else 0) by
        rw [← HR.out]; unfold formErr; rw [if_neg (show ¬ ((1 : Int) < 1 ∨ 5 < (1 : Int)) by decide)]
        simp only [List.length_map, ← HN.out, show ¬ ((1 : Int) = 3) by decide, show ¬ ((4 : Int) ≤ 1) by decide, show ¬ ((1 : Int) = 5) by decide, false_and, if_false])
      go_wp2_with (fail)
      refine (isOp_h 1 true _ rfl).mono ?_
      rintro e w2_ ⟨rfl, hw2_⟩
      obtain rfl := hw2_.symm
      clear hw2_
      go_wp2_with (fail)
      refine (usesV_h 1 false _ rfl).mono ?_
      rintro e w2_ ⟨rfl, hw2_⟩
      obtain rfl := hw2_.symm
      clear hw2_
      go_wp2_with (fail)
      refine (usesR_h 1 false _ rfl).mono ?_
      rintro e w2_ ⟨rfl, hw2_⟩
      obtain rfl := hw2_.symm
      clear hw2_
      go_wp2_with (fail)
      refine (usesR_h 1 false _ rfl).mono ?_
      rintro e w2_ ⟨rfl, hw2_⟩
      obtain rfl := hw2_.symm
      clear hw2_
      go_wp2_with (fail)
      refine (usesP_h 1 false _ rfl).mono ?_
      rintro e w2_ ⟨rfl, hw2_⟩
      obtain rfl := hw2_.symm
      clear hw2_
      obtain ⟨r2, hr2⟩ : ∃ r2, (rgP rs || unusedH ⟨1, vs, rs.map rgK, pts⟩) = r2 := ⟨_, rfl⟩
      have HR2 := Lib.hid hr2
      have HE2 := Lib.hid (show r = if r2 = true then 2 else 0 by rw [HR1.out, ← hr2]; exact un_or _ _)
      clear hr2
      go_wp2_with (fail)
      refine (hasUn_h 1 vs pts A n c rs r2 _ _ ha0 HN.out hl (by decide) HR2.out).mono ?_
      rintro e w3 ⟨rfl, hb3⟩
      have hb3 := q0.trans (hb3.mono q0.size)
      cases r2
      · have HE := Lib.hid (show r = 0 by rw [HE2.out]; rfl)
        go_wp2
        go_ret
        exact ⟨by rw [HE.out]; rfl, hb3⟩
      · have HE := Lib.hid (show r = 2 by rw [HE2.out]; rfl)
        go_wp2
        go_ret
        exact ⟨by rw [HE.out]; rfl, hb3⟩
    · have HR1 := Lib.hid (show r = ( if unusedH ⟨2, vs, rs.map rgK, pts⟩ = true then 2 else if rgP rs = true then 2 else 0) by
        rw [← HR.out]; unfold formErr; rw [if_neg (show ¬ ((2 : Int) < 1 ∨ 5 < (2 : Int)) by decide)]
        simp only [List.length_map, ← HN.out, show ¬ ((2 : Int) = 3) by decide, show ¬ ((4 : Int) ≤ 2) by decide, show ¬ ((2 : Int) = 5) by decide, false_and, if_false])
      go_wp2_with (fail)
      refine (isOp_h 2 true _ rfl).mono ?_
      rintro e w2_ ⟨rfl, hw2_⟩
      obtain rfl := hw2_.symm
      clear hw2_
      go_wp2_with (fail)
      refine (usesV_h 2 false _ rfl).mono ?_
      rintro e w2_ ⟨rfl, hw2_⟩
      obtain rfl := hw2_.symm
      clear hw2_
      go_wp2_with (fail)
      refine (usesR_h 2 false _ rfl).mono ?_
      rintro e w2_ ⟨rfl, hw2_⟩
      obtain rfl := hw2_.symm
      clear hw2_
      go_wp2_with (fail)
      refine (usesR_h 2 false _ rfl).mono ?_
      rintro e w2_ ⟨rfl, hw2_⟩
      obtain rfl := hw2_.symm
      clear hw2_
      go_wp2_with (fail)
      refine (usesP_h 2 false _ rfl).mono ?_
      rintro e w2_ ⟨rfl, hw2_⟩
      obtain rfl := hw2_.symm
      clear hw2_
      obtain ⟨r2, hr2⟩ : ∃ r2, (rgP rs || unusedH ⟨2, vs, rs.map rgK, pts⟩) = r2 := ⟨_, rfl⟩
      have HR2 := Lib.hid hr2
      have HE2 := Lib.hid (show r = if r2 = true then 2 else 0 by rw [HR1.out, ← hr2]; exact un_or _ _)
      clear hr2
      go_wp2_with (fail)
      refine (hasUn_h 2 vs pts A n c rs r2 _ _ ha0 HN.out hl (by decide) HR2.out).mono ?_
      rintro e w3 ⟨rfl, hb3⟩
      have hb3 := q0.trans (hb3.mono q0.size)
      cases r2
      · have HE := Lib.hid (show r = 0 by rw [HE2.out]; rfl)
        go_wp2
        go_ret
        exact ⟨by rw [HE.out]; rfl, hb3⟩
      · have HE := Lib.hid (show r = 2 by rw [HE2.out]; rfl)
        go_wp2
        go_ret
        exact ⟨by rw [HE.out]; rfl, hb3⟩
    · have HR1 := Lib.hid (show r = (if vs < 3 ∨ 64 < vs then 6 else if unusedH ⟨3, vs, rs.map rgK, pts⟩ = true then 2 else if rgP rs = true then 2 else 0) by
        rw [← HR.out]; unfold formErr; rw [if_neg (show ¬ ((3 : Int) < 1 ∨ 5 < (3 : Int)) by decide)]
        simp only [List.length_map, ← HN.out, show ¬ ((4 : Int) ≤ 3) by decide, show ¬ ((3 : Int) = 5) by decide, false_and, if_false, true_and])
      by_cases e1 : 3 ≤ vs ∧ vs ≤ 64
      · replace HR1 := Lib.hid (HR1.out.trans (if_neg (by omega)))
        have HB := Lib.hid (decide_eq_true e1)
        clear e1
        go_wp2_with (fail)
        refine (isOp_h 3 true _ rfl).mono ?_
        rintro e w2_ ⟨rfl, hw2_⟩
        obtain rfl := hw2_.symm
        clear hw2_
        go_wp2_with (fail)
        refine (usesV_h 3 true _ rfl).mono ?_
        rintro e w2_ ⟨rfl, hw2_⟩
        obtain rfl := hw2_.symm
        clear hw2_
        go_wp2_with (fail)
        refine (isPoly_h vs true _ HB.out).mono ?_
        rintro e w2_ ⟨rfl, hw2_⟩
        obtain rfl := hw2_.symm
        clear hw2_
        go_wp2_with (fail)
        refine (usesR_h 3 false _ rfl).mono ?_
        rintro e w2_ ⟨rfl, hw2_⟩
        obtain rfl := hw2_.symm
        clear hw2_
        go_wp2_with (fail)
        refine (usesR_h 3 false _ rfl).mono ?_
        rintro e w2_ ⟨rfl, hw2_⟩
        obtain rfl := hw2_.symm
        clear hw2_
        go_wp2_with (fail)
        refine (usesP_h 3 false _ rfl).mono ?_
        rintro e w2_ ⟨rfl, hw2_⟩
        obtain rfl := hw2_.symm
        clear hw2_
        obtain ⟨r2, hr2⟩ : ∃ r2, (rgP rs || unusedH ⟨3, vs, rs.map rgK, pts⟩) = r2 := ⟨_, rfl⟩
        have HR2 := Lib.hid hr2
        have HE2 := Lib.hid (show r = if r2 = true then 2 else 0 by rw [HR1.out, ← hr2]; exact un_or _ _)
        clear hr2
        go_wp2_with (fail)
        refine (hasUn_h 3 vs pts A n c rs r2 _ _ ha0 HN.out hl (by decide) HR2.out).mono ?_
        rintro e w3 ⟨rfl, hb3⟩
        have hb3 := q0.trans (hb3.mono q0.size)
        cases r2
        · have HE := Lib.hid (show r = 0 by rw [HE2.out]; rfl)
          go_wp2
          go_ret
          exact ⟨by rw [HE.out]; rfl, hb3⟩
        · have HE := Lib.hid (show r = 2 by rw [HE2.out]; rfl)
          go_wp2
          go_ret
          exact ⟨by rw [HE.out]; rfl, hb3⟩
      · have HE := Lib.hid (HR1.out.trans (if_pos (by omega)))
        have HB := Lib.hid (decide_eq_false e1)
        clear e1
        go_wp2_with (fail)
        refine (isOp_h 3 true _ rfl).mono ?_
        rintro e w2_ ⟨rfl, hw2_⟩
        obtain rfl := hw2_.symm
        clear hw2_
        go_wp2_with (fail)
        refine (usesV_h 3 true _ rfl).mono ?_
        rintro e w2_ ⟨rfl, hw2_⟩
        obtain rfl := hw2_.symm
        clear hw2_
        go_wp2_with (fail)
        refine (isPoly_h vs false _ HB.out).mono ?_
        rintro e w2_ ⟨rfl, hw2_⟩
        obtain rfl := hw2_.symm
        clear hw2_
        go_wp2
        go_ret
        exact ⟨by rw [HE.out]; rfl, q0⟩
    · have HR1 := Lib.hid (show r = (if (n : Int) < 1 ∨ 64 < (n : Int) then 6 else if anyBad (rs.map rgK) = true then 7 else if unusedH ⟨4, vs, rs.map rgK, pts⟩ = true then 2 else if rgP rs = true then 2 else 0) by
        rw [← HR.out]; unfold formErr; rw [if_neg (show ¬ ((4 : Int) < 1 ∨ 5 < (4 : Int)) by decide)]
        simp only [List.length_map, ← HN.out, show ¬ ((4 : Int) = 3) by decide, show ((4 : Int) ≤ 4) by decide, show ¬ ((4 : Int) = 5) by decide, false_and, if_false, true_and])
      by_cases e1 : 1 ≤ (n : Int) ∧ (n : Int) ≤ 64
      · replace HR1 := Lib.hid (HR1.out.trans (if_neg (by omega)))
        have HB := Lib.hid (decide_eq_true e1)
        clear e1
        obtain ⟨ba, hba⟩ : ∃ ba, (!anyBad (rs.map rgK)) = ba := ⟨_, rfl⟩
        have HBA := Lib.hid hba
        clear hba
        go_wp2_with (fail)
        refine (isOp_h 4 true _ rfl).mono ?_
        rintro e w2_ ⟨rfl, hw2_⟩
        obtain rfl := hw2_.symm
        clear hw2_
        go_wp2_with (fail)
        refine (usesV_h 4 false _ rfl).mono ?_
        rintro e w2_ ⟨rfl, hw2_⟩
        obtain rfl := hw2_.symm
        clear hw2_
        go_wp2_with (fail)
        refine (usesR_h 4 true _ rfl).mono ?_
        rintro e w2_ ⟨rfl, hw2_⟩
        obtain rfl := hw2_.symm
        clear hw2_
        go_wp2_with (fail)
        refine (isFence_h (n : Int) true _ HB.out).mono ?_
        rintro e w2_ ⟨rfl, hw2_⟩
        obtain rfl := hw2_.symm
        clear hw2_
        go_wp2_with (fail)
        refine (usesR_h 4 true _ rfl).mono ?_
        rintro e w2_ ⟨rfl, hw2_⟩
        obtain rfl := hw2_.symm
        clear hw2_
        go_wp2_with (fail)
        refine (areRegs_h A n c rs ba _ _ ha0 hv HN.out hl HBA.out).mono ?_
        rintro e w2 ⟨rfl, hb2⟩
        have k0 := (hb2.cell (p := ⟨bg, 0, none⟩) (lt_of_cell g0)).trans g0
        have k1 := (hb2.cell (p := ⟨bg, 1, none⟩) (lt_of_cell g1)).trans g1
        have k2 := (hb2.cell (p := ⟨bg, 2, none⟩) (lt_of_cell g2)).trans g2
        have k3 := (hb2.cell (p := ⟨bg, 3, none⟩) (lt_of_cell g3)).trans g3
        have q2 := q0.trans (hb2.mono q0.size)
        have ha2 := ha0.next hb2
        clear g0 g1 g2 g3 ha0
        cases ba
        · have HE := Lib.hid (HR1.out.trans (if_pos (by have := HBA.out; simpa using this)))
          go_wp2
          go_ret
          exact ⟨by rw [HE.out]; rfl, q2⟩
        · replace HR1 := Lib.hid (HR1.out.trans (if_neg (by have := HBA.out; simpa using this)))
          go_wp2_with (fail)
          refine (usesP_h 4 false _ rfl).mono ?_
          rintro e w2_ ⟨rfl, hw2_⟩
          obtain rfl := hw2_.symm
          clear hw2_
          obtain ⟨r2, hr2⟩ : ∃ r2, (rgP rs || unusedH ⟨4, vs, rs.map rgK, pts⟩) = r2 := ⟨_, rfl⟩
          have HR2 := Lib.hid hr2
          have HE2 := Lib.hid (show r = if r2 = true then 2 else 0 by rw [HR1.out, ← hr2]; exact un_or _ _)
          clear hr2
          go_wp2_with (fail)
          refine (hasUn_h 4 vs pts A n c rs r2 _ _ ha2 HN.out hl (by decide) HR2.out).mono ?_
          rintro e w3 ⟨rfl, hb3⟩
          have hb3 := q2.trans (hb3.mono q2.size)
          cases r2
          · have HE := Lib.hid (show r = 0 by rw [HE2.out]; rfl)
            go_wp2
            go_ret
            exact ⟨by rw [HE.out]; rfl, hb3⟩
          · have HE := Lib.hid (show r = 2 by rw [HE2.out]; rfl)
            go_wp2
            go_ret
            exact ⟨by rw [HE.out]; rfl, hb3⟩
      · have HE := Lib.hid (HR1.out.trans (if_pos (by omega)))
        have HB := Lib.hid (decide_eq_false e1)
        clear e1
        go_wp2_with (fail)
        refine (isOp_h 4 true _ rfl).mono ?_
        rintro e w2_ ⟨rfl, hw2_⟩
        obtain rfl := hw2_.symm
        clear hw2_
        go_wp2_with (fail)
        refine (usesV_h 4 false _ rfl).mono ?_
        rintro e w2_ ⟨rfl, hw2_⟩
        obtain rfl := hw2_.symm
        clear hw2_
        go_wp2_with (fail)
        refine (usesR_h 4 true _ rfl).mono ?_
        rintro e w2_ ⟨rfl, hw2_⟩
        obtain rfl := hw2_.symm
        clear hw2_
        go_wp2_with (fail)
        refine (isFence_h (n : Int) false _ HB.out).mono ?_
        rintro e w2_ ⟨rfl, hw2_⟩
        obtain rfl := hw2_.symm
        clear hw2_
        go_wp2
        go_ret
        exact ⟨by rw [HE.out]; rfl, q0⟩
    · have HR1 := Lib.hid (show r = (if (n : Int) < 1 ∨ 64 < (n : Int) then 6 else if anyBad (rs.map rgK) = true then 7 else if pts < 1 ∨ 4096 < pts then 6 else if unusedH ⟨5, vs, rs.map rgK, pts⟩ = true then 2 else if rgP rs = true then 2 else 0) by
        rw [← HR.out]; unfold formErr; rw [if_neg (show ¬ ((5 : Int) < 1 ∨ 5 < (5 : Int)) by decide)]
        simp only [List.length_map, ← HN.out, show ¬ ((5 : Int) = 3) by decide, show ((4 : Int) ≤ 5) by decide, false_and, if_false, true_and])
      by_cases e1 : 1 ≤ (n : Int) ∧ (n : Int) ≤ 64
      · replace HR1 := Lib.hid (HR1.out.trans (if_neg (by omega)))
        have HB := Lib.hid (decide_eq_true e1)
        clear e1
        obtain ⟨ba, hba⟩ : ∃ ba, (!anyBad (rs.map rgK)) = ba := ⟨_, rfl⟩
        have HBA := Lib.hid hba
        clear hba
        go_wp2_with (fail)
        refine (isOp_h 5 true _ rfl).mono ?_
        rintro e w2_ ⟨rfl, hw2_⟩
        obtain rfl := hw2_.symm
        clear hw2_
        go_wp2_with (fail)
        refine (usesV_h 5 false _ rfl).mono ?_
        rintro e w2_ ⟨rfl, hw2_⟩
        obtain rfl := hw2_.symm
        clear hw2_
        go_wp2_with (fail)
        refine (usesR_h 5 true _ rfl).mono ?_
        rintro e w2_ ⟨rfl, hw2_⟩
        obtain rfl := hw2_.symm
        clear hw2_
        go_wp2_with (fail)
        refine (isFence_h (n : Int) true _ HB.out).mono ?_
        rintro e w2_ ⟨rfl, hw2_⟩
        obtain rfl := hw2_.symm
        clear hw2_
        go_wp2_with (fail)
        refine (usesR_h 5 true _ rfl).mono ?_
        rintro e w2_ ⟨rfl, hw2_⟩
        obtain rfl := hw2_.symm
        clear hw2_
        go_wp2_with (fail)
        refine (areRegs_h A n c rs ba _ _ ha0 hv HN.out hl HBA.out).mono ?_
        rintro e w2 ⟨rfl, hb2⟩
        have k0 := (hb2.cell (p := ⟨bg, 0, none⟩) (lt_of_cell g0)).trans g0
        have k1 := (hb2.cell (p := ⟨bg, 1, none⟩) (lt_of_cell g1)).trans g1
        have k2 := (hb2.cell (p := ⟨bg, 2, none⟩) (lt_of_cell g2)).trans g2
        have k3 := (hb2.cell (p := ⟨bg, 3, none⟩) (lt_of_cell g3)).trans g3
        have q2 := q0.trans (hb2.mono q0.size)
        have ha2 := ha0.next hb2
        clear g0 g1 g2 g3 ha0
        cases ba
        · have HE := Lib.hid (HR1.out.trans (if_pos (by have := HBA.out; simpa using this)))
          go_wp2
          go_ret
          exact ⟨by rw [HE.out]; rfl, q2⟩
        · replace HR1 := Lib.hid (HR1.out.trans (if_neg (by have := HBA.out; simpa using this)))
          by_cases e2 : 1 ≤ pts ∧ pts ≤ 4096
          · replace HR1 := Lib.hid (HR1.out.trans (if_neg (by omega)))
            have HB2 := Lib.hid (decide_eq_true e2)
            clear e2
            go_wp2_with (fail)
            refine (usesP_h 5 true _ rfl).mono ?_
            rintro e w2_ ⟨rfl, hw2_⟩
            obtain rfl := hw2_.symm
            clear hw2_
            go_wp2_with (fail)
            refine (isBatch_h pts true _ HB2.out).mono ?_
            rintro e w2_ ⟨rfl, hw2_⟩
            obtain rfl := hw2_.symm
            clear hw2_
            obtain ⟨r2, hr2⟩ : ∃ r2, (rgP rs || unusedH ⟨5, vs, rs.map rgK, pts⟩) = r2 := ⟨_, rfl⟩
            have HR2 := Lib.hid hr2
            have HE2 := Lib.hid (show r = if r2 = true then 2 else 0 by rw [HR1.out, ← hr2]; exact un_or _ _)
            clear hr2
            go_wp2_with (fail)
            refine (hasUn_h 5 vs pts A n c rs r2 _ _ ha2 HN.out hl (by decide) HR2.out).mono ?_
            rintro e w3 ⟨rfl, hb3⟩
            have hb3 := q2.trans (hb3.mono q2.size)
            cases r2
            · have HE := Lib.hid (show r = 0 by rw [HE2.out]; rfl)
              go_wp2
              go_ret
              exact ⟨by rw [HE.out]; rfl, hb3⟩
            · have HE := Lib.hid (show r = 2 by rw [HE2.out]; rfl)
              go_wp2
              go_ret
              exact ⟨by rw [HE.out]; rfl, hb3⟩
          · have HE := Lib.hid (HR1.out.trans (if_pos (by omega)))
            have HB2 := Lib.hid (decide_eq_false e2)
            clear e2
            go_wp2_with (fail)
            refine (usesP_h 5 true _ rfl).mono ?_
            rintro e w2_ ⟨rfl, hw2_⟩
            obtain rfl := hw2_.symm
            clear hw2_
            go_wp2_with (fail)
            refine (isBatch_h pts false _ HB2.out).mono ?_
            rintro e w2_ ⟨rfl, hw2_⟩
            obtain rfl := hw2_.symm
            clear hw2_
            go_wp2
            go_ret
            exact ⟨by rw [HE.out]; rfl, q2⟩
      · have HE := Lib.hid (HR1.out.trans (if_pos (by omega)))
        have HB := Lib.hid (decide_eq_false e1)
        clear e1
        go_wp2_with (fail)
        refine (isOp_h 5 true _ rfl).mono ?_
        rintro e w2_ ⟨rfl, hw2_⟩
        obtain rfl := hw2_.symm
        clear hw2_
        go_wp2_with (fail)
        refine (usesV_h 5 false _ rfl).mono ?_
        rintro e w2_ ⟨rfl, hw2_⟩
        obtain rfl := hw2_.symm
        clear hw2_
        go_wp2_with (fail)
        refine (usesR_h 5 true _ rfl).mono ?_
        rintro e w2_ ⟨rfl, hw2_⟩
        obtain rfl := hw2_.symm
        clear hw2_
        go_wp2_with (fail)
        refine (isFence_h (n : Int) false _ HB.out).mono ?_
        rintro e w2_ ⟨rfl, hw2_⟩
        obtain rfl := hw2_.symm
        clear hw2_
        go_wp2
        go_ret
        exact ⟨by rw [HE.out]; rfl, q0⟩
  · have HE := Lib.hid (show r = 5 by rw [← HR.out]; unfold formErr; rw [if_pos (by simp only; omega)])
    have HB := Lib.hid (decide_eq_false e0)
    clear e0
    go_wp2_with (fail)
    refine (isOp_h op false _ HB.out).mono ?_
    rintro e w2_ ⟨rfl, hw2_⟩
    obtain rfl := hw2_.symm
    go_wp2
    go_ret
    exact ⟨by rw [HE.out]; rfl, q0⟩
end Go.Proofs.YthmkllpdkcmccaaGreatDoor
namespace Go.Proofs.YthmkllpdkcmccaaGreatDoor
open Go.RowKit Go.Maps
set_option maxRecDepth 100000
set_option linter.unusedVariables false
set_option linter.unusedSimpArgs false

theorem own_nextH {w w' : World} {base : Nat} {e : TypeId} {k : IntKind} {v : Value} {os : List Int} (h : OwnK w base e k v os) (hb : Below w.heap.size w w') : OwnK w' base e k v os := h.keep_ fun g hg => hb.block g (h.lt_ g hg).2
theorem byteOf_h (d : Bool) (v : Int) (sl : Value) (r : Int) (w : World) (hv : 0 ≤ v ∧ v ≤ 64) (hr : rgB (d, v) = r) :
    Calls Tryz.prog 79 #[.agg #[.bool d, .int .i64 v, sl]] w fun e w' => e = .returned (.int .u8 r) ∧ Below w.heap.size w w' := by
  have h0 : Below w.heap.size w (w.alloc (.cells #[.bool d, .int .i64 v, sl] 53)) := (Below.refl _ _).alloc (Nat.le_refl _) _
  have HR := Lib.hid hr
  clear hr
  cases d
  · have HX := Lib.hid (show r = v by rw [← HR.out]; rfl)
    go_enter Tryz.func79, Tryz.ntmps79
    go_wp2
    go_ret
    exact ⟨by rw [HX.out]; rfl, h0⟩
  · have HX := Lib.hid (show r = v + 128 by rw [← HR.out]; rfl)
    go_enter Tryz.func79, Tryz.ntmps79
    go_wp2
    go_ret
    exact ⟨by rw [HX.out]; rfl, h0⟩
def FRelH (w : World) (rs : List Rg) (pre : List Int) (b i : Value) (wr : World) : Prop :=
  ∃ k : Nat, i = .int .i64 k ∧ k ≤ rs.length ∧ OwnK wr w.heap.size 5 .u8 b (pre ++ ((rs.take k).map rgK).map rgB) ∧ Below w.heap.size w wr
set_option maxHeartbeats 4000000 in
theorem hdrFormat_cl (op vs pts : Int) (A : Option Addr) (n c : Nat) (rs : List Rg) (er : Int) (bs : List Int) (w : World) (hw : Wts w) (ha : RowR w (fun g => g < w.heap.size) 3 rgC A rs) (hn : n = rs.length) (hl : n ≤ 9223372036854775807) (hS : S op ∧ S vs ∧ S pts) (hv : ∀ r ∈ rs, S r.v) (he : formErr ⟨op, vs, rs.map rgK, pts⟩ (rgP rs) = er) (hb : (if er = 0 then formB ⟨op, vs, rs.map rgK, pts⟩ else []) = bs) :
    Calls Tryz.prog 55 #[.agg #[.int .i64 op, .int .i64 vs, .slice A n c, .int .i64 pts]] w (GivesB w er bs) := by
  obtain ⟨W0, hW0⟩ : ∃ W, W = w.alloc (.cells #[.int .i64 op, .int .i64 vs, .slice A n c, .int .i64 pts] 37) := ⟨_, rfl⟩
  obtain ⟨q0, _, g0, g1, g2, g3⟩ := box4 hW0
  obtain ⟨bg, hbg⟩ : ∃ b, b = w.heap.size := ⟨_, rfl⟩
  rw [← hbg] at g0 g1 g2 g3
  have HW0 := Lib.hid hW0
  have Hbg := Lib.hid hbg
  have HN := Lib.hid hn
  have ha0 := ha.next q0
  have HE0 := Lib.hid he
  have HB := Lib.hid hb
  clear hW0 hbg hb hn ha he hw
  go_enter Tryz.func55, Tryz.ntmps55
  go_upto_region 1 with (fail)
  rw [← HW0.out, ← Hbg.out]
  go_wp2_with (fail)
  refine (check_h op vs pts A n c rs er _ _ ha0 hv HN.out hl HE0.out).mono ?_
  rintro e w1 ⟨rfl, h1⟩
  have k0 := (h1.cell (p := ⟨bg, 0, none⟩) (lt_of_cell g0)).trans g0
  have k1 := (h1.cell (p := ⟨bg, 1, none⟩) (lt_of_cell g1)).trans g1
  have k2 := (h1.cell (p := ⟨bg, 2, none⟩) (lt_of_cell g2)).trans g2
  have k3 := (h1.cell (p := ⟨bg, 3, none⟩) (lt_of_cell g3)).trans g3
  have q1 := q0.trans (h1.mono q0.size)
  have ha1 := ha0.next h1
  clear g0 g1 g2 g3 ha0
  by_cases e0 : er = 0
  · subst e0
    obtain ⟨hk, _⟩ := formErr_ok.1 HE0.out
    have hop := hk.op
    simp only at hop
    have HK := Lib.hid hk
    have hop2 : op = 1 ∨ op = 2 ∨ op = 3 ∨ op = 4 ∨ op = 5 := by omega
    clear hk
    rcases hop2 with rfl | rfl | rfl | rfl | rfl
    · have hrs : rs = [] := by have := HK.out.len0 (show (1 : Int) < 4 by decide); simpa using this
      obtain rfl := hrs
      obtain rfl : n = 0 := HN.out
      obtain rfl : vs = 0 := HK.out.vs0 (show ¬ ((1 : Int) = 3) by decide)
      obtain rfl : pts = 0 := HK.out.pts0 (show ¬ ((1 : Int) = 5) by decide)
      have HBS := Lib.hid (show [1] = bs by rw [← HB.out, if_pos rfl]; unfold formB; rfl)
      go_upto_region 5 with (fail)
      obtain ⟨W1, hW1⟩ : ∃ W1, W1 = w1.alloc (.cells #[.int .u8 1] 5) := ⟨_, rfl⟩
      have p1 : Below w1.heap.size w1 W1 := by rw [hW1]; exact (Below.refl _ _).alloc (Nat.le_refl _) _
      obtain ⟨v1, hv1⟩ : ∃ v, v = Value.slice (some ⟨w1.heap.size, 0, none⟩) 1 1 := ⟨_, rfl⟩
      have own1 : OwnK W1 w1.heap.size 5 .u8 v1 [1] := by rw [hW1, hv1]; exact own_lit _ (by decide) _ (Nat.le_refl _)
      rw [← hW1, ← hv1]
      clear hW1 hv1
      have m0 := (p1.cell (p := ⟨bg, 0, none⟩) (lt_of_cell k0)).trans k0
      have m1 := (p1.cell (p := ⟨bg, 1, none⟩) (lt_of_cell k1)).trans k1
      have m2 := (p1.cell (p := ⟨bg, 2, none⟩) (lt_of_cell k2)).trans k2
      have m3 := (p1.cell (p := ⟨bg, 3, none⟩) (lt_of_cell k3)).trans k3
      go_wp2_with (fail)
      refine (usesV_h 1 false _ rfl).mono ?_
      rintro e w2_ ⟨rfl, hw2_⟩
      obtain rfl := hw2_.symm
      clear hw2_
      go_wp2_with (fail)
      refine (usesR_h 1 false _ rfl).mono ?_
      rintro e w2_ ⟨rfl, hw2_⟩
      obtain rfl := hw2_.symm
      clear hw2_
      go_wp2
      go_loopw [5, 39] (fun b i wr => FRelH w1 ([] : List Rg) [1] b i wr) (fun _ i _ => 0 - (intOf i).toNat)
      case atStart => exact ⟨0, rfl, Nat.zero_le _, by simpa using own1, p1⟩
      case round =>
        obtain ⟨j, rfl, hj, hown, hbr⟩ := hrel
        rw [← HN.out] at hj
        have HO := Lib.hid hown
        clear hown m0 m1 m2 m3 own1 p1
        have m0 := (hbr.cell (p := ⟨bg, 0, none⟩) (lt_of_cell k0)).trans k0
        have m1 := (hbr.cell (p := ⟨bg, 1, none⟩) (lt_of_cell k1)).trans k1
        have m2 := (hbr.cell (p := ⟨bg, 2, none⟩) (lt_of_cell k2)).trans k2
        have m3 := (hbr.cell (p := ⟨bg, 3, none⟩) (lt_of_cell k3)).trans k3
        clear k0 k1 k2 k3
        have hgo : ¬ j < 0 := by omega
        have HO2 := Lib.hid (show OwnK wr w1.heap.size 5 .u8 u5 [1] from by have := HO.out; simpa using this)
        clear ha1 HO
        go_wp2_with (fail)
        refine (usesP_h 1 false _ rfl).mono ?_
        rintro e w2_ ⟨rfl, hw2_⟩
        obtain rfl := hw2_.symm
        clear hw2_
        go_wp2
        go_ret2
        exact ⟨_, rfl, by rw [← HBS.out]; exact HO2.out.base q1.size, q1.trans (hbr.mono q1.size)⟩
    · have hrs : rs = [] := by have := HK.out.len0 (show (2 : Int) < 4 by decide); simpa using this
      obtain rfl := hrs
      obtain rfl : n = 0 := HN.out
      obtain rfl : vs = 0 := HK.out.vs0 (show ¬ ((2 : Int) = 3) by decide)
      obtain rfl : pts = 0 := HK.out.pts0 (show ¬ ((2 : Int) = 5) by decide)
      have HBS := Lib.hid (show [2] = bs by rw [← HB.out, if_pos rfl]; unfold formB; rfl)
      go_upto_region 5 with (fail)
      obtain ⟨W1, hW1⟩ : ∃ W1, W1 = w1.alloc (.cells #[.int .u8 2] 5) := ⟨_, rfl⟩
      have p1 : Below w1.heap.size w1 W1 := by rw [hW1]; exact (Below.refl _ _).alloc (Nat.le_refl _) _
      obtain ⟨v1, hv1⟩ : ∃ v, v = Value.slice (some ⟨w1.heap.size, 0, none⟩) 1 1 := ⟨_, rfl⟩
      have own1 : OwnK W1 w1.heap.size 5 .u8 v1 [2] := by rw [hW1, hv1]; exact own_lit _ (by decide) _ (Nat.le_refl _)
      rw [← hW1, ← hv1]
      clear hW1 hv1
      have m0 := (p1.cell (p := ⟨bg, 0, none⟩) (lt_of_cell k0)).trans k0
      have m1 := (p1.cell (p := ⟨bg, 1, none⟩) (lt_of_cell k1)).trans k1
      have m2 := (p1.cell (p := ⟨bg, 2, none⟩) (lt_of_cell k2)).trans k2
      have m3 := (p1.cell (p := ⟨bg, 3, none⟩) (lt_of_cell k3)).trans k3
      go_wp2_with (fail)
      refine (usesV_h 2 false _ rfl).mono ?_
      rintro e w2_ ⟨rfl, hw2_⟩
      obtain rfl := hw2_.symm
      clear hw2_
      go_wp2_with (fail)
      refine (usesR_h 2 false _ rfl).mono ?_
      rintro e w2_ ⟨rfl, hw2_⟩
      obtain rfl := hw2_.symm
      clear hw2_
      go_wp2
      go_loopw [5, 39] (fun b i wr => FRelH w1 ([] : List Rg) [2] b i wr) (fun _ i _ => 0 - (intOf i).toNat)
      case atStart => exact ⟨0, rfl, Nat.zero_le _, by simpa using own1, p1⟩
      case round =>
        obtain ⟨j, rfl, hj, hown, hbr⟩ := hrel
        rw [← HN.out] at hj
        have HO := Lib.hid hown
        clear hown m0 m1 m2 m3 own1 p1
        have m0 := (hbr.cell (p := ⟨bg, 0, none⟩) (lt_of_cell k0)).trans k0
        have m1 := (hbr.cell (p := ⟨bg, 1, none⟩) (lt_of_cell k1)).trans k1
        have m2 := (hbr.cell (p := ⟨bg, 2, none⟩) (lt_of_cell k2)).trans k2
        have m3 := (hbr.cell (p := ⟨bg, 3, none⟩) (lt_of_cell k3)).trans k3
        clear k0 k1 k2 k3
        have hgo : ¬ j < 0 := by omega
        have HO2 := Lib.hid (show OwnK wr w1.heap.size 5 .u8 u5 [2] from by have := HO.out; simpa using this)
        clear ha1 HO
        go_wp2_with (fail)
        refine (usesP_h 2 false _ rfl).mono ?_
        rintro e w2_ ⟨rfl, hw2_⟩
        obtain rfl := hw2_.symm
        clear hw2_
        go_wp2
        go_ret2
        exact ⟨_, rfl, by rw [← HBS.out]; exact HO2.out.base q1.size, q1.trans (hbr.mono q1.size)⟩
    · have hrs : rs = [] := by have := HK.out.len0 (show (3 : Int) < 4 by decide); simpa using this
      obtain rfl := hrs
      obtain rfl : n = 0 := HN.out
      have hv3 := HK.out.vs3 rfl
      simp only at hv3
      obtain rfl : pts = 0 := HK.out.pts0 (show ¬ ((3 : Int) = 5) by decide)
      have HBS := Lib.hid (show [3, vs] = bs by rw [← HB.out, if_pos rfl]; unfold formB; rfl)
      go_upto_region 5 with (fail)
      obtain ⟨W1, hW1⟩ : ∃ W1, W1 = w1.alloc (.cells #[.int .u8 3] 5) := ⟨_, rfl⟩
      have p1 : Below w1.heap.size w1 W1 := by rw [hW1]; exact (Below.refl _ _).alloc (Nat.le_refl _) _
      obtain ⟨v1, hv1⟩ : ∃ v, v = Value.slice (some ⟨w1.heap.size, 0, none⟩) 1 1 := ⟨_, rfl⟩
      have own1 : OwnK W1 w1.heap.size 5 .u8 v1 [3] := by rw [hW1, hv1]; exact own_lit _ (by decide) _ (Nat.le_refl _)
      rw [← hW1, ← hv1]
      clear hW1 hv1
      have m0 := (p1.cell (p := ⟨bg, 0, none⟩) (lt_of_cell k0)).trans k0
      have m1 := (p1.cell (p := ⟨bg, 1, none⟩) (lt_of_cell k1)).trans k1
      have m2 := (p1.cell (p := ⟨bg, 2, none⟩) (lt_of_cell k2)).trans k2
      have m3 := (p1.cell (p := ⟨bg, 3, none⟩) (lt_of_cell k3)).trans k3
      go_wp2_with (fail)
      refine (usesV_h 3 true _ rfl).mono ?_
      rintro e w2_ ⟨rfl, hw2_⟩
      obtain rfl := hw2_.symm
      clear hw2_
      go_wp2_with (first
        | (at_builtin; refine wp_app_lit rfl _ _ rfl w1.heap.size _ [3] rfl own1 [vs] 1 1 rfl rfl (by simp) p1.size ?_
           intro v2 W2 ownW2 hbW2
           have p2 := p1.trans hbW2
           have h0 := (p2.cell (p := ⟨bg, 0, none⟩) (lt_of_cell k0)).trans k0
           have h1 := (p2.cell (p := ⟨bg, 1, none⟩) (lt_of_cell k1)).trans k1
           have h2 := (p2.cell (p := ⟨bg, 2, none⟩) (lt_of_cell k2)).trans k2
           have h3 := (p2.cell (p := ⟨bg, 3, none⟩) (lt_of_cell k3)).trans k3
           clear m0 m1 m2 m3))
      go_wp2_with (fail)
      refine (usesR_h 3 false _ rfl).mono ?_
      rintro e w2_ ⟨rfl, hw2_⟩
      obtain rfl := hw2_.symm
      clear hw2_
      go_wp2
      go_loopw [5, 39] (fun b i wr => FRelH w1 ([] : List Rg) [3, vs] b i wr) (fun _ i _ => 0 - (intOf i).toNat)
      case atStart => exact ⟨0, rfl, Nat.zero_le _, by simpa using ownW2, p2⟩
      case round =>
        obtain ⟨j, rfl, hj, hown, hbr⟩ := hrel
        rw [← HN.out] at hj
        have HO := Lib.hid hown
        clear hown h0 h1 h2 h3 own1 ownW2 p2 p1 hbW2
        have m0 := (hbr.cell (p := ⟨bg, 0, none⟩) (lt_of_cell k0)).trans k0
        have m1 := (hbr.cell (p := ⟨bg, 1, none⟩) (lt_of_cell k1)).trans k1
        have m2 := (hbr.cell (p := ⟨bg, 2, none⟩) (lt_of_cell k2)).trans k2
        have m3 := (hbr.cell (p := ⟨bg, 3, none⟩) (lt_of_cell k3)).trans k3
        clear k0 k1 k2 k3
        have hgo : ¬ j < 0 := by omega
        have HO2 := Lib.hid (show OwnK wr w1.heap.size 5 .u8 u5 [3, vs] from by have := HO.out; simpa using this)
        clear ha1 HO
        go_wp2_with (fail)
        refine (usesP_h 3 false _ rfl).mono ?_
        rintro e w2_ ⟨rfl, hw2_⟩
        obtain rfl := hw2_.symm
        clear hw2_
        go_wp2
        go_ret2
        exact ⟨_, rfl, by rw [← HBS.out]; exact HO2.out.base q1.size, q1.trans (hbr.mono q1.size)⟩
    · have hn64 : 1 ≤ n ∧ n ≤ 64 := by have := (HK.out.len (show (4 : Int) ≤ 4 by decide)); rw [HN.out]; simpa using this
      have HBd := Lib.hid (fun (j : Nat) (hj : j < rs.length) => bd_of_any (HK.out.ok (show (4 : Int) ≤ 4 by decide)) hj)
      obtain rfl : vs = 0 := HK.out.vs0 (show ¬ ((4 : Int) = 3) by decide)
      obtain rfl : pts = 0 := HK.out.pts0 (show ¬ ((4 : Int) = 5) by decide)
      have HBS := Lib.hid (show [4, (n : Int)] ++ (rs.map rgK).map rgB = bs by rw [← HB.out, if_pos rfl]; unfold formB; simp [HN.out])
      have ha1 := ha1.now (fun _ => Nat.succ_pos 2)
      go_upto_region 5 with (fail)
      obtain ⟨W1, hW1⟩ : ∃ W1, W1 = w1.alloc (.cells #[.int .u8 4] 5) := ⟨_, rfl⟩
      have p1 : Below w1.heap.size w1 W1 := by rw [hW1]; exact (Below.refl _ _).alloc (Nat.le_refl _) _
      obtain ⟨v1, hv1⟩ : ∃ v, v = Value.slice (some ⟨w1.heap.size, 0, none⟩) 1 1 := ⟨_, rfl⟩
      have own1 : OwnK W1 w1.heap.size 5 .u8 v1 [4] := by rw [hW1, hv1]; exact own_lit _ (by decide) _ (Nat.le_refl _)
      rw [← hW1, ← hv1]
      clear hW1 hv1
      have m0 := (p1.cell (p := ⟨bg, 0, none⟩) (lt_of_cell k0)).trans k0
      have m1 := (p1.cell (p := ⟨bg, 1, none⟩) (lt_of_cell k1)).trans k1
      have m2 := (p1.cell (p := ⟨bg, 2, none⟩) (lt_of_cell k2)).trans k2
      have m3 := (p1.cell (p := ⟨bg, 3, none⟩) (lt_of_cell k3)).trans k3
      go_wp2_with (fail)
      refine (usesV_h 4 false _ rfl).mono ?_
      rintro e w2_ ⟨rfl, hw2_⟩
      obtain rfl := hw2_.symm
      clear hw2_
      go_wp2_with (fail)
      refine (usesR_h 4 true _ rfl).mono ?_
      rintro e w2_ ⟨rfl, hw2_⟩
      obtain rfl := hw2_.symm
      clear hw2_
      go_wp2_with (first
        | (at_builtin; refine wp_app_lit rfl _ _ rfl w1.heap.size _ [4] rfl own1 [(n : Int)] 1 1 rfl rfl (by simp) p1.size ?_
           intro v2 W2 ownW2 hbW2
           have p2 := p1.trans hbW2
           have h0 := (p2.cell (p := ⟨bg, 0, none⟩) (lt_of_cell k0)).trans k0
           have h1 := (p2.cell (p := ⟨bg, 1, none⟩) (lt_of_cell k1)).trans k1
           have h2 := (p2.cell (p := ⟨bg, 2, none⟩) (lt_of_cell k2)).trans k2
           have h3 := (p2.cell (p := ⟨bg, 3, none⟩) (lt_of_cell k3)).trans k3
           clear m0 m1 m2 m3))
      go_wp2
      go_loopw [5, 39] (fun b i wr => FRelH w1 rs [4, (n : Int)] b i wr) (fun _ i _ => n - (intOf i).toNat)
      case atStart => exact ⟨0, rfl, Nat.zero_le _, by simpa using ownW2, p2⟩
      case round =>
        obtain ⟨j, rfl, hj, hown, hbr⟩ := hrel
        rw [← HN.out] at hj
        have HO := Lib.hid hown
        clear hown h0 h1 h2 h3 own1 ownW2 p2 p1 hbW2
        have m0 := (hbr.cell (p := ⟨bg, 0, none⟩) (lt_of_cell k0)).trans k0
        have m1 := (hbr.cell (p := ⟨bg, 1, none⟩) (lt_of_cell k1)).trans k1
        have m2 := (hbr.cell (p := ⟨bg, 2, none⟩) (lt_of_cell k2)).trans k2
        have m3 := (hbr.cell (p := ⟨bg, 3, none⟩) (lt_of_cell k3)).trans k3
        clear k0 k1 k2 k3
        by_cases hgj : j < n
        · have hgj2 : j < rs.length := by rw [← HN.out]; exact hgj
          have HB1 := Lib.hid (bytes_snoc hgj2 [4, (n : Int)])
          have hvb := HBd.out j hgj2
          obtain ⟨b, o, rfl, ⟨hSb, hbl⟩, c0, c1, c2⟩ := ha1.rg2 hgj2
          have c0 := (hbr.cell (p := ⟨b, o + j * 3, none⟩) hbl).trans c0
          have c1 := (hbr.cell (p := ⟨b, o + j * 3 + 1, none⟩) hbl).trans c1
          have c2 := (hbr.cell (p := ⟨b, o + j * 3 + 2, none⟩) hbl).trans c2
          obtain ⟨x, hx⟩ : ∃ x, rgB (rgK rs[j]) = x := ⟨_, rfl⟩
          rw [hx] at HB1
          have HX1 := Lib.hid hx
          clear hx
          generalize rs[j]'hgj2 = g at *
          obtain ⟨d, v, A2, cp, l⟩ := g
          have hX2 := HX1.out
          unfold rgK at hX2
          simp only at c0 c1 c2 hX2 hvb
          have HX2 := Lib.hid hX2
          obtain ⟨m, hm⟩ : ∃ m, m = l.length := ⟨_, rfl⟩
          rw [← hm] at c2
          obtain ⟨W, hW⟩ : ∃ W, W = wr.alloc (.cells #[.bool d, .int .i64 v, .slice A2 m cp] 53) := ⟨_, rfl⟩
          obtain ⟨B, hB⟩ : ∃ B, B = wr.heap.size := ⟨_, rfl⟩
          have h0 : Below wr.heap.size wr W := by rw [hW]; exact (Below.refl _ _).alloc (Nat.le_refl _) _
          have i0 : W.cell? ⟨B, 0, none⟩ = some (.bool d) := by rw [hW, hB]; simp [go_sem]
          have i1 : W.cell? ⟨B, 1, none⟩ = some (.int .i64 v) := by rw [hW, hB]; simp [go_sem]
          have i2 : W.cell? ⟨B, 2, none⟩ = some (.slice A2 m cp) := by rw [hW, hB]; simp [go_sem]
          have HO2 := Lib.hid (own_nextH HO.out h0)
          have hbW := hbr.trans (h0.mono hbr.size)
          have HW := Lib.hid hW
          have HBB := Lib.hid hB
          have hj64 : (rs.take j).length ≤ 64 := by rw [List.length_take]; omega
          clear hW hB hm hgj2 ha1 hX2 HX1 HO
          go_wp2_with (fail)
          rw [← HW.out, ← HBB.out]
          refine (byteOf_h d v (.slice A2 m cp) x W hvb HX2.out).mono ?_
          rintro e w3 ⟨rfl, h3⟩
          have h4 := hbW.trans (h3.mono hbW.size)
          have HO3 := Lib.hid (own_nextH HO2.out h3)
          clear HO2 i0 i1 i2 c0 c1 c2
          go_wp2_with (first
            | (at_builtin; refine wp_app_lit rfl _ _ rfl w1.heap.size _ _ rfl HO3.out [x] 1 1 rfl rfl (by simp; omega) h4.size ?_
               intro v5 W5 own5 hb5))
          go_roundw
          case rel => exact ⟨j + 1, by go_num, by rw [← HN.out]; omega, by rw [HB1.out]; exact own5, h4.trans hb5⟩
          case measure => simp [intOf]; omega
        · have HT := Lib.hid (show rs.take j = rs from List.take_of_length_le (by rw [← HN.out]; omega))
          rw [HT.out] at HO
          have hrl : rs.length ≤ 64 := by rw [← HN.out]; omega
          clear ha1
          go_wp2_with (fail)
          refine (usesP_h 4 false _ rfl).mono ?_
          rintro e w2_ ⟨rfl, hw2_⟩
          obtain rfl := hw2_.symm
          clear hw2_
          go_wp2
          go_ret2
          exact ⟨_, rfl, by rw [← HBS.out]; exact HO.out.base q1.size, q1.trans (hbr.mono q1.size)⟩
    · have hn64 : 1 ≤ n ∧ n ≤ 64 := by have := (HK.out.len (show (4 : Int) ≤ 5 by decide)); rw [HN.out]; simpa using this
      have HBd := Lib.hid (fun (j : Nat) (hj : j < rs.length) => bd_of_any (HK.out.ok (show (4 : Int) ≤ 5 by decide)) hj)
      obtain rfl : vs = 0 := HK.out.vs0 (show ¬ ((5 : Int) = 3) by decide)
      have hp5 := HK.out.pts5 rfl
      simp only at hp5
      have HBS := Lib.hid (show [5, (n : Int)] ++ (rs.map rgK).map rgB ++ [pts % 256, pts / 256] = bs by rw [← HB.out, if_pos rfl]; unfold formB; simp [HN.out])
      have ha1 := ha1.now (fun _ => Nat.succ_pos 2)
      go_upto_region 5 with (fail)
      obtain ⟨W1, hW1⟩ : ∃ W1, W1 = w1.alloc (.cells #[.int .u8 5] 5) := ⟨_, rfl⟩
      have p1 : Below w1.heap.size w1 W1 := by rw [hW1]; exact (Below.refl _ _).alloc (Nat.le_refl _) _
      obtain ⟨v1, hv1⟩ : ∃ v, v = Value.slice (some ⟨w1.heap.size, 0, none⟩) 1 1 := ⟨_, rfl⟩
      have own1 : OwnK W1 w1.heap.size 5 .u8 v1 [5] := by rw [hW1, hv1]; exact own_lit _ (by decide) _ (Nat.le_refl _)
      rw [← hW1, ← hv1]
      clear hW1 hv1
      have m0 := (p1.cell (p := ⟨bg, 0, none⟩) (lt_of_cell k0)).trans k0
      have m1 := (p1.cell (p := ⟨bg, 1, none⟩) (lt_of_cell k1)).trans k1
      have m2 := (p1.cell (p := ⟨bg, 2, none⟩) (lt_of_cell k2)).trans k2
      have m3 := (p1.cell (p := ⟨bg, 3, none⟩) (lt_of_cell k3)).trans k3
      go_wp2_with (fail)
      refine (usesV_h 5 false _ rfl).mono ?_
      rintro e w2_ ⟨rfl, hw2_⟩
      obtain rfl := hw2_.symm
      clear hw2_
      go_wp2_with (fail)
      refine (usesR_h 5 true _ rfl).mono ?_
      rintro e w2_ ⟨rfl, hw2_⟩
      obtain rfl := hw2_.symm
      clear hw2_
      go_wp2_with (first
        | (at_builtin; refine wp_app_lit rfl _ _ rfl w1.heap.size _ [5] rfl own1 [(n : Int)] 1 1 rfl rfl (by simp) p1.size ?_
           intro v2 W2 ownW2 hbW2
           have p2 := p1.trans hbW2
           have h0 := (p2.cell (p := ⟨bg, 0, none⟩) (lt_of_cell k0)).trans k0
           have h1 := (p2.cell (p := ⟨bg, 1, none⟩) (lt_of_cell k1)).trans k1
           have h2 := (p2.cell (p := ⟨bg, 2, none⟩) (lt_of_cell k2)).trans k2
           have h3 := (p2.cell (p := ⟨bg, 3, none⟩) (lt_of_cell k3)).trans k3
           clear m0 m1 m2 m3))
      go_wp2
      go_loopw [5, 39] (fun b i wr => FRelH w1 rs [5, (n : Int)] b i wr) (fun _ i _ => n - (intOf i).toNat)
      case atStart => exact ⟨0, rfl, Nat.zero_le _, by simpa using ownW2, p2⟩
      case round =>
        obtain ⟨j, rfl, hj, hown, hbr⟩ := hrel
        rw [← HN.out] at hj
        have HO := Lib.hid hown
        clear hown h0 h1 h2 h3 own1 ownW2 p2 p1 hbW2
        have m0 := (hbr.cell (p := ⟨bg, 0, none⟩) (lt_of_cell k0)).trans k0
        have m1 := (hbr.cell (p := ⟨bg, 1, none⟩) (lt_of_cell k1)).trans k1
        have m2 := (hbr.cell (p := ⟨bg, 2, none⟩) (lt_of_cell k2)).trans k2
        have m3 := (hbr.cell (p := ⟨bg, 3, none⟩) (lt_of_cell k3)).trans k3
        clear k0 k1 k2 k3
        by_cases hgj : j < n
        · have hgj2 : j < rs.length := by rw [← HN.out]; exact hgj
          have HB1 := Lib.hid (bytes_snoc hgj2 [5, (n : Int)])
          have hvb := HBd.out j hgj2
          obtain ⟨b, o, rfl, ⟨hSb, hbl⟩, c0, c1, c2⟩ := ha1.rg2 hgj2
          have c0 := (hbr.cell (p := ⟨b, o + j * 3, none⟩) hbl).trans c0
          have c1 := (hbr.cell (p := ⟨b, o + j * 3 + 1, none⟩) hbl).trans c1
          have c2 := (hbr.cell (p := ⟨b, o + j * 3 + 2, none⟩) hbl).trans c2
          obtain ⟨x, hx⟩ : ∃ x, rgB (rgK rs[j]) = x := ⟨_, rfl⟩
          rw [hx] at HB1
          have HX1 := Lib.hid hx
          clear hx
          generalize rs[j]'hgj2 = g at *
          obtain ⟨d, v, A2, cp, l⟩ := g
          have hX2 := HX1.out
          unfold rgK at hX2
          simp only at c0 c1 c2 hX2 hvb
          have HX2 := Lib.hid hX2
          obtain ⟨m, hm⟩ : ∃ m, m = l.length := ⟨_, rfl⟩
          rw [← hm] at c2
          obtain ⟨W, hW⟩ : ∃ W, W = wr.alloc (.cells #[.bool d, .int .i64 v, .slice A2 m cp] 53) := ⟨_, rfl⟩
          obtain ⟨B, hB⟩ : ∃ B, B = wr.heap.size := ⟨_, rfl⟩
          have h0 : Below wr.heap.size wr W := by rw [hW]; exact (Below.refl _ _).alloc (Nat.le_refl _) _
          have i0 : W.cell? ⟨B, 0, none⟩ = some (.bool d) := by rw [hW, hB]; simp [go_sem]
          have i1 : W.cell? ⟨B, 1, none⟩ = some (.int .i64 v) := by rw [hW, hB]; simp [go_sem]
          have i2 : W.cell? ⟨B, 2, none⟩ = some (.slice A2 m cp) := by rw [hW, hB]; simp [go_sem]
          have HO2 := Lib.hid (own_nextH HO.out h0)
          have hbW := hbr.trans (h0.mono hbr.size)
          have HW := Lib.hid hW
          have HBB := Lib.hid hB
          have hj64 : (rs.take j).length ≤ 64 := by rw [List.length_take]; omega
          clear hW hB hm hgj2 ha1 hX2 HX1 HO
          go_wp2_with (fail)
          rw [← HW.out, ← HBB.out]
          refine (byteOf_h d v (.slice A2 m cp) x W hvb HX2.out).mono ?_
          rintro e w3 ⟨rfl, h3⟩
          have h4 := hbW.trans (h3.mono hbW.size)
          have HO3 := Lib.hid (own_nextH HO2.out h3)
          clear HO2 i0 i1 i2 c0 c1 c2
          go_wp2_with (first
            | (at_builtin; refine wp_app_lit rfl _ _ rfl w1.heap.size _ _ rfl HO3.out [x] 1 1 rfl rfl (by simp; omega) h4.size ?_
               intro v5 W5 own5 hb5))
          go_roundw
          case rel => exact ⟨j + 1, by go_num, by rw [← HN.out]; omega, by rw [HB1.out]; exact own5, h4.trans hb5⟩
          case measure => simp [intOf]; omega
        · have HT := Lib.hid (show rs.take j = rs from List.take_of_length_le (by rw [← HN.out]; omega))
          rw [HT.out] at HO
          have hrl : rs.length ≤ 64 := by rw [← HN.out]; omega
          clear ha1
          go_wp2_with (fail)
          refine (usesP_h 5 true _ rfl).mono ?_
          rintro e w2_ ⟨rfl, hw2_⟩
          obtain rfl := hw2_.symm
          clear hw2_
          go_wp2_with (first
            | (at_builtin; refine wp_app_lit rfl _ _ rfl w1.heap.size _ _ rfl HO.out [pts % 256, pts / 256] 2 2 rfl rfl (by simp; omega) hbr.size ?_
               intro v3 W3 own3 hb3))
          go_ret2
          exact ⟨_, rfl, by rw [← HBS.out]; exact own3.base q1.size, q1.trans ((hbr.trans hb3).mono q1.size)⟩
  · have HX := Lib.hid (show [] = bs by rw [← HB.out, if_neg e0])
    have d0 : (er != 0) = true := by rw [bne_iff_ne]; exact e0
    clear e0
    go_wp2
    go_ret2
    exact ⟨_, rfl, by rw [← HX.out]; exact OwnK.nil_ _ _ _ _, q1⟩
end Go.Proofs.YthmkllpdkcmccaaGreatDoor
namespace Go.Proofs.YthmkllpdkcmccaaGreatDoor
open Go.RowKit
set_option maxRecDepth 100000
set_option linter.unusedVariables false
set_option linter.unusedSimpArgs false

def EncRel (W : World) (fs : List Int) (rs : List Rg) (b i : Value) (wr : World) : Prop := ∃ k : Nat, i = .int .i64 k ∧ k ≤ rs.length ∧ EncI W b (fs ++ rgsB ((rs.take k).map rgD)) wr
set_option maxHeartbeats 4000000 in
theorem codEncode_c (op vx pts : Int) (hA : Option Addr) (hn hc : Nat) (hrs : List Rg) (RA : Option Addr) (rn rc : Nat) (rs : List Rg) (PA : Option Addr) (pn pc : Nat) (ps : List Pt) (QA : Option Addr) (qn qc : Nat) (qs : List Qr) (er : Int) (bs : List Int) (w : World) (hw : Wts w)
    (hr : ReqR w (fun g => g < w.heap.size) hA hn hc hrs RA rn rc rs PA pn pc ps QA qn qc qs) (hl : hn ≤ 9223372036854775807 ∧ rn ≤ 9223372036854775807 ∧ pn ≤ 9223372036854775807 ∧ qn ≤ 9223372036854775807) (hS : S op ∧ S vx ∧ S pts) (hv : ∀ r ∈ hrs, S r.v)
    (he : encE ⟨⟨op, vx, hrs.map rgK, pts⟩, rs.map rgD, ps, qs⟩ (rgP hrs) = er) (hb : (if er = 0 then encB ⟨⟨op, vx, hrs.map rgK, pts⟩, rs.map rgD, ps, qs⟩ else []) = bs) :
    Calls Tryz.prog 32 #[.agg #[.int .i64 op, .int .i64 vx, .slice hA hn hc, .int .i64 pts, .slice RA rn rc, .slice PA pn pc, .slice QA qn qc]] w (GivesB w er bs) := by
  obtain ⟨W, hW⟩ : ∃ W, W = w.alloc (.cells #[.int .i64 op, .int .i64 vx, .slice hA hn hc, .int .i64 pts, .slice RA rn rc, .slice PA pn pc, .slice QA qn qc] 48) := ⟨_, rfl⟩
  obtain ⟨B, hB⟩ : ∃ b, b = w.heap.size := ⟨_, rfl⟩
  obtain ⟨h0, hsW, g0, g1, g2, g3, g4, g5, g6⟩ := box7 hW
  rw [← hB] at g0 g1 g2 g3 g4 g5 g6
  have hBW : B < W.heap.size := by omega
  clear hsW
  have HBX := Lib.hid (ReqAt.mk g0 g1 g2 g3 g4 g5 g6)
  have hrW := hr.next h0
  have HR := Lib.hid hrW
  have HRN := Lib.hid hrW.rlen
  have HHN := Lib.hid hrW.hlen
  have HPN := Lib.hid hrW.plen
  have HQN := Lib.hid hrW.qlen
  have HWT := Lib.hid (hw.below h0)
  obtain ⟨fe, hfe⟩ : ∃ fe, formErr ⟨op, vx, hrs.map rgK, pts⟩ (rgP hrs) = fe := ⟨_, rfl⟩
  have HFE := Lib.hid hfe
  have HE := Lib.hid he
  have HBB := Lib.hid hb
  have HW := Lib.hid hW
  have HB := Lib.hid hB
  have HSZ := Lib.hid h0.size
  have HL := Lib.hid hl
  have hhl := hl.1
  clear hW hB hr hrW hfe he hb hw hl
  go_enter Tryz.func32, Tryz.ntmps32
  go_upto_region 1 with (fail)
  rw [← HW.out, ← HB.out]
  go_wp2_with (fail)
  refine (hdrFormat_cl op vx pts hA hn hc hrs fe _ W HWT.out (HR.out.hrow.imp fun g hg => Nat.lt_of_lt_of_le hg HSZ.out) HHN.out hhl hS hv HFE.out rfl).mono ?_
  rintro e w1 ⟨v1, rfl, hown1, hb1⟩
  have hx1 := HBX.out.next hb1 hBW
  by_cases hf : fe = 0
  · subst hf
    rw [if_pos rfl] at hown1
    obtain ⟨hk, hpf⟩ := formErr_ok.1 HFE.out
    have hfl := formB_len hk
    have hi1 : EncI W v1 (formB ⟨op, vx, hrs.map rgK, pts⟩) w1 := ⟨hown1, hb1⟩
    have HK := Lib.hid hk
    have HCN := Lib.hid (cnt_nn hk)
    obtain ⟨q, hq⟩ : ∃ q, lenOk ⟨op, vx, hrs.map rgK, pts⟩ (rs.map rgD) pn qn = q := ⟨_, rfl⟩
    have HQ := Lib.hid hq
    clear hq hk hpf hown1 hb1 g0 g1 g2 g3 g4 g5 g6
    obtain ⟨k0, k1, k2, k3, k4, k5, k6⟩ := hx1
    go_wp2_with (fail)
    refine (hasLengths_any op vx pts hA hn hc hrs RA rn rc rs PA pn pc ps QA qn qc qs q _ w1 (HWT.out.below hi1.below) (HR.out.next hi1.below) HL.out HK.out hv HQ.out).mono ?_
    rintro e w2 ⟨rfl, hb2⟩
    have hi2 := hi1.next hb2
    have hx2 := HBX.out.next hi2.below hBW
    clear k0 k1 k2 k3 k4 k5 k6 hi1 hb2
    obtain ⟨k0, k1, k2, k3, k4, k5, k6⟩ := hx2
    cases q with
    | false =>
      have HX := Lib.hid (show er = 8 ∧ bs = [] by
        have h1 : er = 8 := by
          rw [← HE.out]
          have hq := HQ.out
          unfold lenOk at hq
          by_cases hc1 : (rs.map rgD).length = (hrs.map rgK).length ∧ (pn : Int) = cntP ⟨op, vx, hrs.map rgK, pts⟩ ∧ (qn : Int) = cntQ ⟨op, vx, hrs.map rgK, pts⟩
          · rw [decide_eq_true hc1, Bool.true_and] at hq
            rw [HPN.out, HQN.out] at hc1
            exact enc_len HFE.out hc1 hq
          · rw [HPN.out, HQN.out] at hc1
            exact enc_cnt HFE.out hc1
        exact ⟨h1, by rw [← HBB.out, if_neg (by omega)]⟩)
      go_wp2
      exact bodyPost_ret (v := .tuple #[.slice none 0 0, .int .i64 8]) (by simp [results, Tryz.results32, go_sem]) rfl (by rw [HX.out.1]; exact givesB_bad (by decide) HX.out.2 (h0.trans (hi2.below.mono h0.size)))
    | true =>
      have HLO := Lib.hid (show ((rs.map rgD).length = (hrs.map rgK).length ∧ (ps.length : Int) = cntP ⟨op, vx, hrs.map rgK, pts⟩ ∧ (qs.length : Int) = cntQ ⟨op, vx, hrs.map rgK, pts⟩) ∧ lens (rs.map rgD) (hrs.map rgK) = true by
        have hq := HQ.out
        unfold lenOk at hq
        rw [Bool.and_eq_true, decide_eq_true_eq, HPN.out, HQN.out] at hq
        exact hq)
      have HLEN := Lib.hid (show rs.length = hrs.length by have := HLO.out.1.1; simpa using this)
      obtain ⟨q2, hq2⟩ : ∃ q2, kinds (rs.map rgD) (hrs.map rgK) = q2 := ⟨_, rfl⟩
      have HQ2 := Lib.hid hq2
      clear hq2
      go_wp2_with (fail)
      refine (hasKinds_any op vx pts hA hn hc hrs RA rn rc rs PA pn pc ps QA qn qc qs q2 _ w2 (HR.out.next hi2.below) HL.out HLEN.out HQ2.out).mono ?_
      rintro e w3 ⟨rfl, hb3⟩
      have hi3 := hi2.next hb3
      have hx3 := HBX.out.next hi3.below hBW
      clear k0 k1 k2 k3 k4 k5 k6 hi2 hb3
      obtain ⟨k0, k1, k2, k3, k4, k5, k6⟩ := hx3
      cases q2 with
      | false =>
        have HX := Lib.hid (show er = 2 ∧ bs = [] by
          have h1 : er = 2 := by rw [← HE.out]; exact enc_kind HFE.out HLO.out.1 HLO.out.2 HQ2.out
          exact ⟨h1, by rw [← HBB.out, if_neg (by omega)]⟩)
        go_wp2
        exact bodyPost_ret (v := .tuple #[.slice none 0 0, .int .i64 2]) (by simp [results, Tryz.results32, go_sem]) rfl (by rw [HX.out.1]; exact givesB_bad (by decide) HX.out.2 (h0.trans (hi3.below.mono h0.size)))
      | true =>
        obtain ⟨fs, hfs⟩ : ∃ fs, fs = formB ⟨op, vx, hrs.map rgK, pts⟩ := ⟨_, rfl⟩
        rw [← hfs] at hfl hi3
        have HX := Lib.hid (show er = 0 ∧ bs = fs ++ rgsB (rs.map rgD) ++ ps.flatMap ptB ++ qs.flatMap qrB by
          have h1 : er = 0 := by rw [← HE.out]; exact enc_ok HFE.out HLO.out.1 HLO.out.2 HQ2.out
          refine ⟨h1, ?_⟩
          rw [← HBB.out, if_pos h1, hfs]
          unfold encB
          simp only [List.append_assoc])
        have HR64 := Lib.hid (show rs.length ≤ 64 by
          have h1 := HK.out.len
          have h2 := HK.out.len0
          simp only [List.length_map] at h1
          by_cases h4 : 4 ≤ op
          · have := (h1 h4).2; have := HLEN.out; omega
          · have h3 := h2 (by show op < 4; have := HK.out.op; simp only at this; omega)
            have h5 : hrs = [] := by simpa using h3
            have := HLEN.out; rw [h5] at this; simp at this; rw [this]; simp)
        have HL64 := Lib.hid (show ∀ (j : Nat) (h : j < rs.length), rs[j].l.length ≤ 64 from fun j h => by
          have h1 := (lens_to HLEN.out).1 HLO.out.2 j h (by rw [← HLEN.out]; exact h) h
          have h2 := sizeF_bd (hrs[j]'(by rw [← HLEN.out]; exact h)).v
          omega)
        clear hfs
        go_wp2
        go_loopw [4, 29] (fun b i wr => EncRel W fs rs b i wr) (fun _ i _ => rs.length - (intOf i).toNat)
        case atStart => exact ⟨0, rfl, Nat.zero_le _, by rw [List.take_zero, show fs ++ rgsB ([].map rgD) = fs from by simp [rgsB]]; exact hi3⟩
        case round =>
          clear hi3 k0 k1 k2 k3 k4 k5 k6
          obtain ⟨k, rfl, hk, hi⟩ := hrel
          by_cases hgo : k < rs.length
          · obtain ⟨b, o, rfl, hT, cw0, cw1, cw2⟩ := (HR.out.rrow.next hi.below).rg2 hgo
            have HRG := Lib.hid (HR.out.rok _ (List.getElem_mem hgo))
            have HSN := Lib.hid (rgsB_snoc hgo)
            have hm64 := HL64.out k hgo
            have hYL := rgsB_le HL64.out k hk
            generalize hrw : rs[k] = r at cw0 cw1 cw2 HRG HSN hm64
            clear hrw
            obtain ⟨da, va, A2, cc, pl⟩ := r
            simp only at cw0 cw1 cw2 HSN hm64
            obtain ⟨m, hm⟩ : ∃ m, pl.length = m := ⟨_, rfl⟩
            rw [hm] at cw2
            have HM := Lib.hid hm.symm
            have hkr : (k : Int) < rn := by have := HRN.out; omega
            have hrl := HR64.out
            obtain ⟨W3, hW3⟩ : ∃ W3, W3 = wr.alloc (.cells #[.bool da, .int .i64 va, .slice A2 m cc] 53) := ⟨_, rfl⟩
            have h3 : Below wr.heap.size wr W3 := by rw [hW3]; exact (Below.refl _ _).alloc (Nat.le_refl _) _
            obtain ⟨bl, hbl⟩ : ∃ b, b = wr.heap.size := ⟨_, rfl⟩
            have i2 : W3.cell? ⟨bl, 2, none⟩ = some (.slice A2 m cc) := by rw [hW3, hbl]; simp [go_sem]
            have hi4 := hi.next h3
            have hlen : (fs ++ rgsB ((rs.take k).map rgD)).length + 16 * pl.length ≤ 700000 := by rw [List.length_append]; omega
            obtain ⟨Y, hY⟩ : ∃ Y, Y = fs ++ rgsB ((rs.take k).map rgD) := ⟨_, rfl⟩
            rw [← hY] at hi4 hlen
            have HY := Lib.hid hY
            have HW3 := Lib.hid hW3
            have HBL := Lib.hid hbl
            clear hm hW3 hbl hY hi
            go_upto_region 11 with (fail)
            rw [← HW3.out, ← HBL.out]
            go_wp2_with (fail)
            refine (appPoints_any W.heap.size _ Y A2 m cc pl W3 hi4.row hlen hi4.below.size ((HRG.out.row.imp fun g hg => Nat.lt_of_lt_of_le hg HSZ.out).next hi4.below) HM.out HRG.out.ss).mono ?_
            rintro e w5 ⟨b5, rfl, hg5⟩
            have hi6 := hi4.grow hg5
            go_wp2
            go_roundw
            case rel => exact ⟨k + 1, by go_num, hgo, by rw [HSN.out, ← List.append_assoc, ← HY.out]; exact hi6⟩
            case measure => simp [intOf]; omega
          · have hke : k = rs.length := by omega
            subst hke
            have hz := rgsB_le HL64.out rs.length (Nat.le_refl _)
            have hrl := HR64.out
            rw [List.take_length] at hi hz
            obtain ⟨ys, hys⟩ : ∃ ys, ys = fs ++ rgsB (rs.map rgD) := ⟨_, rfl⟩
            rw [← hys] at hi
            have hcn := HCN.out
            have hyl : ys.length + 16 * ps.length ≤ 700000 := by rw [hys, List.length_append]; have := HLO.out.1.2.1; omega
            have hyl2 : (ys ++ ps.flatMap ptB).length + 24 * qs.length ≤ 700000 := by rw [List.length_append, flatK_len ptB_len, hys, List.length_append]; have := HLO.out.1.2; omega
            have hrnk : ¬ ((rs.length : Int) < rn) := by have := HRN.out; omega
            obtain ⟨L, hL⟩ : ∃ L, L = rs.length := ⟨_, rfl⟩
            rw [← hL] at hrnk ⊢
            have HYS := Lib.hid hys
            obtain ⟨k0, k1, k2, k3, k4, k5, k6⟩ := HBX.out.next hi.below hBW
            clear hys hz hgo hk hL hrl hcn
            go_wp2_with (fail)
            refine (appPoints_any W.heap.size _ ys PA pn pc ps wr hi.row hyl hi.below.size ((HR.out.prow.imp fun g hg => Nat.lt_of_lt_of_le hg HSZ.out).next hi.below) HPN.out HR.out.pss).mono ?_
            rintro e w5 ⟨b5, rfl, hg5⟩
            have hi6 := hi.grow hg5
            obtain ⟨k0', k1', k2', k3', k4', k5', k6'⟩ := HBX.out.next hi6.below hBW
            clear k0 k1 k2 k3 k4 k5 k6
            obtain ⟨zs, hzs⟩ : ∃ zs, zs = ys ++ ps.flatMap ptB := ⟨_, rfl⟩
            rw [← hzs] at hi6 hyl2
            have HZS := Lib.hid hzs
            clear hzs hg5 hi
            go_wp2_with (fail)
            refine (appQueries_any W.heap.size _ zs QA qn qc qs w5 hi6.row hyl2 hi6.below.size ((HR.out.qrow.imp fun g hg => Nat.lt_of_lt_of_le hg HSZ.out).next hi6.below) HQN.out HR.out.qok).mono ?_
            rintro e w6 ⟨b6, rfl, hg6⟩
            have hi7 := hi6.grow hg6
            clear hg6 hi6
            go_wp2
            exact bodyPost_ret (v := .tuple #[b6, .int .i64 0]) (by simp [results, Tryz.results32, go_sem]) rfl (by rw [HX.out.1, HX.out.2, ← HYS.out, ← HZS.out]; exact EncI.gives h0 hi7 rfl)
  · have HX := Lib.hid (show er = fe ∧ bs = [] by
      have h1 : er = fe := by rw [← HE.out, ← HFE.out]; exact enc_fmt (by rw [HFE.out]; exact hf)
      exact ⟨h1, by rw [← HBB.out, if_neg (by omega)]⟩)
    have d1 : (fe != 0) = true := by rw [bne_iff_ne]; exact hf
    have HF := Lib.hid hf
    clear hf
    go_wp2
    exact bodyPost_ret (v := .tuple #[.slice none 0 0, .int .i64 fe]) (by simp [results, Tryz.results32, go_sem]) rfl (by rw [HX.out.1]; exact givesB_bad HF.out HX.out.2 (h0.trans (hb1.mono h0.size)))
end Go.Proofs.YthmkllpdkcmccaaGreatDoor
namespace Go.Proofs.YthmkllpdkcmccaaGreatDoor
open Go.RowKit
set_option maxRecDepth 100000
set_option linter.unusedVariables false
set_option linter.unusedSimpArgs false

section
variable {α : Type} {C : α → List Value} {k : Nat} {te : TypeId}
/-- A row v of one's own has become v', with the elements l. -/
structure GrewC (te : TypeId) (k : Nat) (C : α → List Value) (w : World) (base : Nat) (v : Value) (l : List α) (v' : Value) (w' : World) : Prop where
  row : w'.ownsRow base te k v' l.length (l.flatMap C)
  moved : Moved (fun b => v.ownBlock = some b) w w'
  own : ∀ b, v'.ownBlock = some b → v.ownBlock = some b ∨ w.heap.size ≤ b
theorem GrewC.ahead {w w1 w2 : World} {base : Nat} {v v2 : Value} {l : List α} (h : Below w.heap.size w w1) (g : GrewC te k C w1 base v l v2 w2) : GrewC te k C w base v l v2 w2 :=
  ⟨g.row, ⟨g.moved.os.trans h.os, g.moved.tape.trans h.tape, g.moved.output.trans h.output, Nat.le_trans h.size g.moved.size, fun b hb hn => (g.moved.block b (Nat.lt_of_lt_of_le hb h.size) hn).trans (h.block b hb)⟩,
    fun b hb => (g.own b hb).imp id (fun e => Nat.le_trans h.size e)⟩
theorem GrewC.behind {w w1 w2 : World} {base : Nat} {v v1 : Value} {l : List α} (h : GrewC te k C w base v l v1 w1) (g : Below w1.heap.size w1 w2) : GrewC te k C w base v l v1 w2 :=
  ⟨row_keep h.row fun b hb => g.block b (World.ownsRow.lt h.row b hb).2, h.moved.trans (.of_below g), h.own⟩
theorem GrewC.below {w w' : World} {base B : Nat} {v v' : Value} {l : List α} (h : GrewC te k C w base v l v' w') (hv : ∀ b, v.ownBlock = some b → B ≤ b) (hB : B ≤ w.heap.size) : Below B w w' :=
  ⟨h.moved.os, h.moved.tape, h.moved.output, h.moved.size, fun k hk => h.moved.block k (by omega) (fun e => by have := hv k e; omega)⟩
theorem GrewC.dst {w : World} {base : Nat} {v : Value} {l : List α} : DStab (fun v' w' => GrewC te k C w base v l v' w') := fun v' w1 w2 h hb => h.behind hb
end
/-- A block of three cells. -/
def BoxT (w : World) (b : Nat) (x y z : Value) (t : TypeId) : Prop := w.heap[b]? = some (.cells #[x, y, z] t (0, 0))
theorem BoxT.at_ {w : World} {b : Nat} {x y z : Value} {t : TypeId} (h : BoxT w b x y z t) : (w.cell? ⟨b, 0, none⟩ = some x ∧ w.cell? ⟨b, 1, none⟩ = some y ∧ w.cell? ⟨b, 2, none⟩ = some z) ∧
    (w.frozen? ⟨b, 0, none⟩ = false ∧ w.frozen? ⟨b, 1, none⟩ = false ∧ w.frozen? ⟨b, 2, none⟩ = false) := by
  unfold BoxT at h
  refine ⟨⟨?_, ?_, ?_⟩, ?_, ?_, ?_⟩ <;> simp [World.cell?, World.frozen?, h]
theorem BoxT.lt {w : World} {b : Nat} {x y z : Value} {t : TypeId} (h : BoxT w b x y z t) : b < w.heap.size := (Array.getElem?_eq_some_iff.1 h).1
theorem BoxT.same {w w' : World} {b : Nat} {x y z : Value} {t : TypeId} (h : BoxT w b x y z t) (e : w'.heap[b]? = w.heap[b]?) : BoxT w' b x y z t := e.trans h
theorem BoxT.set {w : World} {b : Nat} {x y z : Value} {t : TypeId} (h : BoxT w b x y z t) (v : Value) :
    BoxT (w.setCell ⟨b, 0, none⟩ v) b v y z t ∧ BoxT (w.setCell ⟨b, 1, none⟩ v) b x v z t ∧ BoxT (w.setCell ⟨b, 2, none⟩ v) b x y v t := by
  unfold BoxT at h ⊢
  refine ⟨?_, ?_, ?_⟩ <;> (show (w.heap.modify b _)[b]? = _; rw [Array.getElem?_modify, if_pos rfl, h]; rfl)
theorem moved_one {W : World} {b o : Nat} {v : Value} : Moved (fun g => g = b) W (W.setCell ⟨b, o, none⟩ v) :=
  ⟨rfl, rfl, rfl, by simp, fun g _ hS => Below.heap_setCell _ _ _ _ hS⟩
theorem BoxT.put3 {w Wf : World} {b : Nat} {x y z x0 y0 z0 : Value} {t : TypeId} (h : BoxT w b x0 y0 z0 t) (hWf : ((w.setCell ⟨b, 0, none⟩ x).setCell ⟨b, 1, none⟩ y).setCell ⟨b, 2, none⟩ z = Wf) : BoxT Wf b x y z t ∧ Moved (fun g => g = b) w Wf := by
  have h3 := (((h.set x).1.set y).2.1.set z).2.2
  rw [hWf] at h3
  exact ⟨h3, hWf ▸ (moved_one.trans moved_one).trans moved_one⟩
theorem BoxT.dst {b : Nat} {x y z : Value} {t : TypeId} : DStab (fun (_ : Value) w => BoxT w b x y z t) := fun _ w w' h hb => h.same (hb.block b h.lt)
/-- All three cells are stored. -/
theorem fin3 {w W Wf : World} {b B : Nat} {x y z x0 y0 z0 : Value} {t : TypeId} (h : BoxT W b x0 y0 z0 t) (hb : Below B w W) (hB : B ≤ b)
    (hWf : ((W.setCell ⟨b, 0, none⟩ x).setCell ⟨b, 1, none⟩ y).setCell ⟨b, 2, none⟩ z = Wf) :
    Below B w Wf ∧ (∀ g, g ≠ b → Wf.heap[g]? = W.heap[g]?) ∧ Wf.cell? ⟨b, 0, none⟩ = some x ∧ Wf.cell? ⟨b, 1, none⟩ = some y ∧ Wf.cell? ⟨b, 2, none⟩ = some z := by
  have h3 := (((h.set x).1.set y).2.1.set z).2.2
  rw [hWf] at h3
  refine ⟨?_, fun g hg => ?_, h3.at_.1⟩
  · subst hWf
    exact ((hb.setCell (p := ⟨b, 0, none⟩) hB x).setCell (p := ⟨b, 1, none⟩) hB y).setCell (p := ⟨b, 2, none⟩) hB z
  · subst hWf
    rw [Below.heap_setCell _ _ _ _ hg, Below.heap_setCell _ _ _ _ hg, Below.heap_setCell _ _ _ _ hg]
end Go.Proofs.YthmkllpdkcmccaaGreatDoor
namespace Go.Proofs.YthmkllpdkcmccaaGreatDoor
open Go.RowKit Go.Maps
set_option maxRecDepth 100000
set_option linter.unusedVariables false
set_option linter.unusedSimpArgs false

theorem valueOf_any (x : Int) (h0 : 0 ≤ x) (h1 : x < 9223372036854775808) (w : World) : Calls Tryz.prog 24 #[.int .u64 x] w fun e w' => e = .returned (.int .i64 x) ∧ Below w.heap.size w w' := by
  have e1 : IntKind.i64.wrap x = x := wrap_i64' (by omega) h1
  have HS := Lib.hid h0
  clear h0 h1
  go_enter Tryz.func24, Tryz.ntmps24
  go_wp2
  go_ret
  exact ⟨rfl, Below.refl _ _⟩
theorem RegsOk.now {w : World} {T : Nat → Prop} {rs : List Rg} (h : RegsOk w T rs) : RegsOk w (fun b => T b ∧ b < w.heap.size) rs := fun r hr => ⟨(h r hr).row.now (fun _ => Nat.succ_pos 1), (h r hr).ss, (h r hr).nil, (h r hr).wf⟩
theorem RegsOk.keep {w w' : World} {T : Nat → Prop} {rs : List Rg} (h : RegsOk w T rs) (hk : ∀ b, T b → b < w.heap.size → w'.heap[b]? = w.heap[b]?) : RegsOk w' T rs := fun r hr => ⟨(h r hr).row.keep hk, (h r hr).ss, (h r hr).nil, (h r hr).wf⟩
theorem mk_bit (m : Bool) : mk m % 2 = if m then 1 else 0 := by cases m <;> decide +kernel
set_option maxHeartbeats 2000000 in
theorem engConvex_c (q : Int) (tv : Value) (evs : List Ev) (T Q : Nat → Prop) (A : Option Addr) (n c : Nat) (l : List Pt) (p : Pt) (r : Int) (w : World) (hw : ∀ W, Moved T w W → WtsC q W) (ht : TapeO w T tv evs) (he : evs.length ≤ 900000) (ha : RowR w Q 2 ptC A l) (hQT : ∀ b, Q b → ¬ T b) (hn : n = l.length) (hl : n ≤ 1000000) (hS : SsP l) (hp : S p.x ∧ S p.y) (hr : convV l p = r) :
    Calls Tryz.prog 9 #[tv, .slice A n c, .agg #[.int .i64 p.x, .int .i64 p.y]] w fun e w' => e = .returned (.int .i64 r) ∧ TapeO w' (fun g => T g ∨ w.heap.size ≤ g) tv (addT tv evs (validE n ++ locateE n)) ∧ Moved T w w' := by
  obtain ⟨tp, rfl⟩ : ∃ tp, tv = .pointer tp := by rcases ht with ⟨rfl, _⟩ | ⟨tb, rfl, _⟩ <;> exact ⟨_, rfl⟩
  obtain ⟨W, hW⟩ : ∃ W, W = w.alloc (.cells #[.int .i64 p.x, .int .i64 p.y] 24) := ⟨_, rfl⟩
  obtain ⟨B, hB⟩ : ∃ b, b = w.heap.size := ⟨_, rfl⟩
  have h0 : Below w.heap.size w W := by rw [hW]; exact (Below.refl _ _).alloc (Nat.le_refl _) _
  have c0 : W.cell? ⟨B, 0, none⟩ = some (.int .i64 p.x) := by rw [hW, hB]; simp [go_sem]
  have c1 : W.cell? ⟨B, 1, none⟩ = some (.int .i64 p.y) := by rw [hW, hB]; simp [go_sem]
  have hBW : B < W.heap.size := lt_of_cell c0
  have hoff : ¬ ((T B ∧ B < w.heap.size) ∨ W.heap.size ≤ B) := fun h => h.elim (fun h => by have := h.2; omega) (fun h => by omega)
  obtain ⟨z, hz⟩ : ∃ z, validP l = z := ⟨_, rfl⟩
  obtain ⟨k, hk⟩ : ∃ k, locP l p = k := ⟨_, rfl⟩
  have hk3 : k = -1 ∨ k = 0 ∨ k = 1 := hk ▸ locP_tri l p
  obtain ⟨s, hs⟩ : ∃ s, s = k + 1 := ⟨_, rfl⟩
  have hs2 : 0 ≤ s ∧ s ≤ 2 := by rcases hk3 with h | h | h <;> omega
  have e1 : IntKind.i64.wrap (k + 1) = s := by rw [wrap_i64' (by omega) (by omega), hs]
  have e2 : IntKind.u64.wrap s = s := wrap_u64' (by omega) (by omega)
  have hrb : 0 ≤ r ∧ r ≤ 3 := hr ▸ convV_in l p
  have HX := Lib.hid (show sel (mk z) s 3 = r by
    rw [← hr]; unfold convV; rw [hz, hk, ← hs]
    cases z
    · exact sel_false (by unfold U; omega) (by unfold U; omega)
    · exact sel_true (by unfold U; omega) (by unfold U; omega))
  have hpr := Lib.hid (ha.now (fun _ => Nat.succ_pos 1))
  have hQ2 := Lib.hid (show ∀ b, (Q b ∧ b < w.heap.size) → ¬ ((T b ∧ b < w.heap.size) ∨ W.heap.size ≤ b) from fun b hb e => by
    rcases e with e | e
    · exact hQT b hb.1 e.1
    · have := hb.2; have := h0.size; omega)
  have hv1 := validE_len n
  have hlen : (addT (.pointer tp) evs (validE n)).length ≤ 990000 := by have := addT_le (.pointer tp) evs (validE n); omega
  obtain ⟨E1, hE1⟩ : ∃ E, E = addT (.pointer tp) evs (validE n) := ⟨_, rfl⟩
  rw [← hE1] at hlen
  have HEV := Lib.hid (show addT (.pointer tp) E1 (locateE n) = addT (.pointer tp) evs (validE n ++ locateE n) by rw [hE1, addT_assoc])
  have HE1 := Lib.hid hE1
  have HN := Lib.hid hn
  have HZ := Lib.hid hz
  have HK := Lib.hid hk
  have HT := Lib.hid ht
  have HW := Lib.hid hW
  have HB := Lib.hid hB
  clear hn hz hr hW hB ht hs hk hE1 ha hv1 hk3
  go_enter Tryz.func9, Tryz.ntmps9
  go_upto_region 1 with (fail)
  rw [← HW.out, ← HB.out]
  go_wp2_with (fail)
  refine (polyValid_c (.pointer tp) evs (fun g => (T g ∧ g < w.heap.size) ∨ W.heap.size ≤ g) (fun b => Q b ∧ b < w.heap.size) A n c l z W (fun W2 hm => (hw W2 (moved_mix h0 hm)).wts) (tape_mix HT.out h0) (by omega) (hpr.out.next h0) hQ2.out HN.out hl hS HZ.out).mono ?_
  rintro e w1 ⟨rfl, ht1, hm1⟩
  rw [← HE1.out] at ht1
  have ht1 : TapeO w1 (fun g => (T g ∧ g < w.heap.size) ∨ W.heap.size ≤ g) (.pointer tp) E1 := ht1.imp fun g hg => hg.elim id .inr
  have d0 := (hm1.cell (p := ⟨B, 0, none⟩) hBW hoff).trans c0
  have d1 := (hm1.cell (p := ⟨B, 1, none⟩) hBW hoff).trans c1
  clear c0 c1
  go_wp2_with (fail)
  refine (polyLocate_c (.pointer tp) E1 (fun g => (T g ∧ g < w.heap.size) ∨ W.heap.size ≤ g) (fun b => Q b ∧ b < w.heap.size) A n c l p k w1 (fun W2 hm => (hw W2 (moved_mix h0 (hm1.trans hm))).wts) ht1 hlen (hpr.out.keep fun b hb _ => (moved_mix h0 hm1).block b hb.2 (hQT b hb.1)) hQ2.out HN.out hl hS hp HK.out).mono ?_
  rintro e w2 ⟨rfl, ht2, hm2⟩
  rw [HEV.out] at ht2
  have hmf := moved_mix h0 (hm1.trans hm2)
  have hsz := h0.size
  have hsz1 := hm1.size
  clear d0 d1
  go_wp2_with (fail)
  refine (select_b (mk z) s 3 w2).mono ?_
  rintro e w3 ⟨rfl, hb3⟩
  rw [HX.out]
  go_wp2_with (fail)
  refine (valueOf_any r hrb.1 (by omega) w3).mono ?_
  rintro e w4 ⟨rfl, hb4⟩
  go_wp2
  go_ret
  refine ⟨rfl, ((ht2.next hb3).next hb4).imp fun g hg => ?_, (hmf.trans (.of_below hb3)).trans (.of_below hb4)⟩
  rcases hg with (hg | hg) | hg
  · exact .inl hg.1
  · exact .inr (by omega)
  · exact .inr (by omega)
set_option maxHeartbeats 2000000 in
theorem engFence_c (q : Int) (tv : Value) (evs : List Ev) (T Q : Nat → Prop) (A : Option Addr) (n c : Nat) (rs : List Rg) (p : Pt) (r : Int) (w : World) (hw : ∀ W, Moved T w W → WtsC q W) (ht : TapeO w T tv evs) (he : evs.length ≤ 400000) (ha : RowR w Q 3 rgC A rs) (hg : RegsOk w Q rs) (hQT : ∀ b, Q b → ¬ T b) (hn : n = rs.length) (hl : n ≤ 1000000) (hp : S p.x ∧ S p.y) (hr : fencVw q rs p = r) :
    Calls Tryz.prog 21 #[tv, .slice A n c, .agg #[.int .i64 p.x, .int .i64 p.y]] w fun e w' => e = .returned (.int .i64 r) ∧ TapeO w' (fun g => T g ∨ w.heap.size ≤ g) tv (addT tv evs (validFE rs ++ memberFE rs)) ∧ Moved T w w' := by
  obtain ⟨tp, rfl⟩ : ∃ tp, tv = .pointer tp := by rcases ht with ⟨rfl, _⟩ | ⟨tb, rfl, _⟩ <;> exact ⟨_, rfl⟩
  obtain ⟨W, hW⟩ : ∃ W, W = w.alloc (.cells #[.int .i64 p.x, .int .i64 p.y] 24) := ⟨_, rfl⟩
  obtain ⟨B, hB⟩ : ∃ b, b = w.heap.size := ⟨_, rfl⟩
  have h0 : Below w.heap.size w W := by rw [hW]; exact (Below.refl _ _).alloc (Nat.le_refl _) _
  have c0 : W.cell? ⟨B, 0, none⟩ = some (.int .i64 p.x) := by rw [hW, hB]; simp [go_sem]
  have c1 : W.cell? ⟨B, 1, none⟩ = some (.int .i64 p.y) := by rw [hW, hB]; simp [go_sem]
  have hBW : B < W.heap.size := lt_of_cell c0
  have hoff : ¬ ((T B ∧ B < w.heap.size) ∨ W.heap.size ≤ B) := fun h => h.elim (fun h => by have := h.2; omega) (fun h => by omega)
  obtain ⟨z, hz⟩ : ∃ z, validFw q rs = z := ⟨_, rfl⟩
  obtain ⟨m, hm⟩ : ∃ m, memberF rs p = m := ⟨_, rfl⟩
  have hrb : 0 ≤ r ∧ r ≤ 2 := hr ▸ fencV_in q rs p
  obtain ⟨s, hs⟩ : ∃ s : Int, (if m then 1 else 0) = s := ⟨_, rfl⟩
  have HM2 := Lib.hid (show mk m % 2 = s by rw [mk_bit, hs])
  have hs2 : 0 ≤ s ∧ s ≤ 1 := by rw [← hs]; split <;> omega
  have HX := Lib.hid (show sel (mk z) s 2 = r by
    rw [← hr]; unfold fencVw; rw [hz, hm, hs]
    cases z
    · exact sel_false (by unfold U; omega) (by unfold U; omega)
    · exact sel_true (by unfold U; omega) (by unfold U; omega))
  have hpr := Lib.hid (ha.now (fun _ => Nat.succ_pos 2))
  have hgr := Lib.hid hg.now
  have hQ2 := Lib.hid (show ∀ b, (Q b ∧ b < w.heap.size) → ¬ ((T b ∧ b < w.heap.size) ∨ W.heap.size ≤ b) from fun b hb e => by
    rcases e with e | e
    · exact hQT b hb.1 e.1
    · have := hb.2; have := h0.size; omega)
  have hv1 := validFE_len rs
  have hlen : (addT (.pointer tp) evs (validFE rs)).length ≤ 700000 := by have := addT_le (.pointer tp) evs (validFE rs); omega
  obtain ⟨E1, hE1⟩ : ∃ E, E = addT (.pointer tp) evs (validFE rs) := ⟨_, rfl⟩
  rw [← hE1] at hlen
  have HEV := Lib.hid (show addT (.pointer tp) E1 (memberFE rs) = addT (.pointer tp) evs (validFE rs ++ memberFE rs) by rw [hE1, addT_assoc])
  have HMU := Lib.hid (show U (mk m) by unfold U; cases m <;> decide +kernel)
  have HE1 := Lib.hid hE1
  have HN := Lib.hid hn
  have HZ := Lib.hid hz
  have HMM := Lib.hid hm
  have HT := Lib.hid ht
  have HW := Lib.hid hW
  have HB := Lib.hid hB
  clear hn hz hr hW hB ht hs hm hE1 ha hv1 hg
  go_enter Tryz.func21, Tryz.ntmps21
  go_upto_region 1 with (fail)
  rw [← HW.out, ← HB.out]
  go_wp2_with (fail)
  refine (fenceValid_c q (.pointer tp) evs (fun g => (T g ∧ g < w.heap.size) ∨ W.heap.size ≤ g) (fun b => Q b ∧ b < w.heap.size) A n c rs z W (fun W2 hm => hw W2 (moved_mix h0 hm)) (tape_mix HT.out h0) (by omega) (hpr.out.next h0) (hgr.out.next h0) hQ2.out HN.out hl HZ.out).mono ?_
  rintro e w1 ⟨rfl, ht1, hm1⟩
  rw [← HE1.out] at ht1
  have ht1 : TapeO w1 (fun g => (T g ∧ g < w.heap.size) ∨ W.heap.size ≤ g) (.pointer tp) E1 := ht1.imp fun g hg => hg.elim id .inr
  have d0 := (hm1.cell (p := ⟨B, 0, none⟩) hBW hoff).trans c0
  have d1 := (hm1.cell (p := ⟨B, 1, none⟩) hBW hoff).trans c1
  clear c0 c1
  go_wp2_with (fail)
  refine (fenceMember_c q (.pointer tp) E1 (fun g => (T g ∧ g < w.heap.size) ∨ W.heap.size ≤ g) (fun b => Q b ∧ b < w.heap.size) A n c rs p m w1 (fun W2 hm => hw W2 (moved_mix h0 (hm1.trans hm))) ht1 hlen (hpr.out.keep fun b hb _ => (moved_mix h0 hm1).block b hb.2 (hQT b hb.1)) (hgr.out.keep fun b hb _ => (moved_mix h0 hm1).block b hb.2 (hQT b hb.1)) hQ2.out HN.out hl hp HMM.out).mono ?_
  rintro e w2 ⟨rfl, ht2, hm2⟩
  rw [HEV.out] at ht2
  have hmf := moved_mix h0 (hm1.trans hm2)
  have hsz := h0.size
  have hsz1 := hm1.size
  clear d0 d1
  go_wp2_with (fail)
  refine (bit_b (mk m) HMU.out w2).mono ?_
  rintro e w3 ⟨rfl, hb3⟩
  rw [HM2.out]
  go_wp2_with (fail)
  refine (select_b (mk z) s 2 w3).mono ?_
  rintro e w4 ⟨rfl, hb4⟩
  rw [HX.out]
  go_wp2_with (fail)
  refine (valueOf_any r hrb.1 (by omega) w4).mono ?_
  rintro e w5 ⟨rfl, hb5⟩
  go_wp2
  go_ret
  refine ⟨rfl, (((ht2.next hb3).next hb4).next hb5).imp fun g hg => ?_, ((hmf.trans (.of_below hb3)).trans (.of_below hb4)).trans (.of_below hb5)⟩
  rcases hg with (hg | hg) | hg
  · exact .inl hg.1
  · exact .inr (by omega)
  · exact .inr (by omega)
end Go.Proofs.YthmkllpdkcmccaaGreatDoor
