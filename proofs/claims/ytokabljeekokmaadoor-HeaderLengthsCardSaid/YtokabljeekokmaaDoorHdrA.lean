/-
  The contracts of package header over the landed code: the tests on numbers, areRegions. (Written by hdr17.py.)
-/
import Derived.Test.YtokabljeekokmaaDoorFenceS
import Derived.Test.YtokabljeekokmaaDoorRef17
namespace Go.Proofs.YtokabljeekokmaaDoor
open Go.RowKit Go.Maps
set_option maxRecDepth 100000
set_option linter.unusedVariables false
set_option linter.unusedSimpArgs false

theorem isOp_h (x : Int) (r : Bool) (w : World) (hr : decide (1 ≤ x ∧ x ≤ 5) = r) :
    Calls Tryd.prog 25 #[.int .i64 x] w fun e w' => e = .returned (.bool r) ∧ w' = w := by
  by_cases h1 : 1 ≤ x
  · by_cases h2 : x ≤ 5
    · obtain rfl : true = r := by rw [← hr]; exact (decide_eq_true ⟨h1, h2⟩).symm
      clear hr
      go_enter Tryd.func25, Tryd.ntmps25
      go_wp2
      go_ret
      exact ⟨rfl, rfl⟩
    · obtain rfl : false = r := by rw [← hr]; exact (decide_eq_false fun h => h2 h.2).symm
      clear hr
      go_enter Tryd.func25, Tryd.ntmps25
      go_wp2
      go_ret
      exact ⟨rfl, rfl⟩
  · obtain rfl : false = r := by rw [← hr]; exact (decide_eq_false fun h => h1 h.1).symm
    clear hr
    go_enter Tryd.func25, Tryd.ntmps25
    go_wp2
    go_ret
    exact ⟨rfl, rfl⟩
theorem isPoly_h (x : Int) (r : Bool) (w : World) (hr : decide (3 ≤ x ∧ x ≤ 64) = r) :
    Calls Tryd.prog 27 #[.int .i64 x] w fun e w' => e = .returned (.bool r) ∧ w' = w := by
  by_cases h1 : 3 ≤ x
  · by_cases h2 : x ≤ 64
    · obtain rfl : true = r := by rw [← hr]; exact (decide_eq_true ⟨h1, h2⟩).symm
      clear hr
      go_enter Tryd.func27, Tryd.ntmps27
      go_wp2
      go_ret
      exact ⟨rfl, rfl⟩
    · obtain rfl : false = r := by rw [← hr]; exact (decide_eq_false fun h => h2 h.2).symm
      clear hr
      go_enter Tryd.func27, Tryd.ntmps27
      go_wp2
      go_ret
      exact ⟨rfl, rfl⟩
  · obtain rfl : false = r := by rw [← hr]; exact (decide_eq_false fun h => h1 h.1).symm
    clear hr
    go_enter Tryd.func27, Tryd.ntmps27
    go_wp2
    go_ret
    exact ⟨rfl, rfl⟩
theorem isFence_h (x : Int) (r : Bool) (w : World) (hr : decide (1 ≤ x ∧ x ≤ 64) = r) :
    Calls Tryd.prog 29 #[.int .i64 x] w fun e w' => e = .returned (.bool r) ∧ w' = w := by
  by_cases h1 : 1 ≤ x
  · by_cases h2 : x ≤ 64
    · obtain rfl : true = r := by rw [← hr]; exact (decide_eq_true ⟨h1, h2⟩).symm
      clear hr
      go_enter Tryd.func29, Tryd.ntmps29
      go_wp2
      go_ret
      exact ⟨rfl, rfl⟩
    · obtain rfl : false = r := by rw [← hr]; exact (decide_eq_false fun h => h2 h.2).symm
      clear hr
      go_enter Tryd.func29, Tryd.ntmps29
      go_wp2
      go_ret
      exact ⟨rfl, rfl⟩
  · obtain rfl : false = r := by rw [← hr]; exact (decide_eq_false fun h => h1 h.1).symm
    clear hr
    go_enter Tryd.func29, Tryd.ntmps29
    go_wp2
    go_ret
    exact ⟨rfl, rfl⟩
theorem isBatch_h (x : Int) (r : Bool) (w : World) (hr : decide (1 ≤ x ∧ x ≤ 4096) = r) :
    Calls Tryd.prog 33 #[.int .i64 x] w fun e w' => e = .returned (.bool r) ∧ w' = w := by
  by_cases h1 : 1 ≤ x
  · by_cases h2 : x ≤ 4096
    · obtain rfl : true = r := by rw [← hr]; exact (decide_eq_true ⟨h1, h2⟩).symm
      clear hr
      go_enter Tryd.func33, Tryd.ntmps33
      go_wp2
      go_ret
      exact ⟨rfl, rfl⟩
    · obtain rfl : false = r := by rw [← hr]; exact (decide_eq_false fun h => h2 h.2).symm
      clear hr
      go_enter Tryd.func33, Tryd.ntmps33
      go_wp2
      go_ret
      exact ⟨rfl, rfl⟩
  · obtain rfl : false = r := by rw [← hr]; exact (decide_eq_false fun h => h1 h.1).symm
    clear hr
    go_enter Tryd.func33, Tryd.ntmps33
    go_wp2
    go_ret
    exact ⟨rfl, rfl⟩
theorem usesV_h (x : Int) (r : Bool) (w : World) (hr : (x == 3) = r) :
    Calls Tryd.prog 26 #[.int .i64 x] w fun e w' => e = .returned (.bool r) ∧ w' = w := by
  go_enter Tryd.func26, Tryd.ntmps26
  go_wp2
  go_ret
  exact ⟨rfl, rfl⟩
theorem usesP_h (x : Int) (r : Bool) (w : World) (hr : (x == 5) = r) :
    Calls Tryd.prog 32 #[.int .i64 x] w fun e w' => e = .returned (.bool r) ∧ w' = w := by
  go_enter Tryd.func32, Tryd.ntmps32
  go_wp2
  go_ret
  exact ⟨rfl, rfl⟩
theorem usesR_h (x : Int) (r : Bool) (w : World) (hr : (x == 4 || x == 5) = r) :
    Calls Tryd.prog 28 #[.int .i64 x] w fun e w' => e = .returned (.bool r) ∧ w' = w := by
  by_cases h1 : x = 4
  · obtain rfl : true = r := by rw [← hr, h1]; rfl
    have d1 : (x == 4) = true := by rw [beq_iff_eq]; exact h1
    clear hr h1
    go_enter Tryd.func28, Tryd.ntmps28
    go_wp2
    go_ret
    exact ⟨rfl, rfl⟩
  · have d1 : (x == 4) = false := by rw [beq_eq_false_iff_ne]; exact h1
    rw [d1, Bool.false_or] at hr
    clear h1
    go_enter Tryd.func28, Tryd.ntmps28
    go_wp2
    go_ret
    exact ⟨rfl, rfl⟩
theorem anyBad_take1 {rs : List Rg} {k : Nat} (h : k < rs.length) : anyBad ((rs.take (k + 1)).map rgK) = (anyBad ((rs.take k).map rgK) || decide (sizeF (rs[k]).v = 0)) := by
  rw [List.take_succ_eq_append_getElem h, List.map_append]; unfold anyBad; rw [List.any_append]; simp [rgK]
theorem anyBad_of_take {rs : List Rg} {k : Nat} (h : anyBad ((rs.take k).map rgK) = true) : anyBad (rs.map rgK) = true := by
  unfold anyBad at h ⊢
  rw [List.any_eq_true] at h ⊢
  obtain ⟨x, hx, hb⟩ := h
  obtain ⟨y, hy, rfl⟩ := List.mem_map.1 hx
  exact ⟨_, List.mem_map.2 ⟨y, List.mem_of_mem_take hy, rfl⟩, hb⟩
/-- The loop of areRegions. -/
def ARelH (w : World) (rs : List Rg) (i : Value) (wr : World) : Prop := ∃ k : Nat, i = .int .i64 k ∧ k ≤ rs.length ∧ anyBad ((rs.take k).map rgK) = false ∧ Below w.heap.size w wr
set_option maxHeartbeats 1000000 in
theorem areRegs_h (A : Option Addr) (n c : Nat) (rs : List Rg) (r : Bool) (T : Nat → Prop) (w : World) (ha : RowR w T 3 rgC A rs) (hv : ∀ x ∈ rs, S x.v) (hn : n = rs.length) (hl : n ≤ 9223372036854775807) (hr : (!anyBad (rs.map rgK)) = r) :
    Calls Tryd.prog 31 #[.slice A n c] w fun e w' => e = .returned (.bool r) ∧ Below w.heap.size w w' := by
  have HN := Lib.hid hn
  have HR := Lib.hid hr
  have HV := Lib.hid hv
  have ha := ha.now (fun _ => Nat.succ_pos 2)
  clear hr hn hv
  go_enter Tryd.func31, Tryd.ntmps31
  go_wp2
  go_loopw [7] (fun i wr => ARelH w rs i wr) (fun i _ => n - (intOf i).toNat)
  case atStart => exact ⟨0, rfl, Nat.zero_le _, rfl, Below.refl _ _⟩
  case round =>
    obtain ⟨k, rfl, hk, hc0, hb⟩ := hrel
    rw [← HN.out] at hk
    have HC := Lib.hid hc0
    clear hc0
    by_cases hgo : k < n
    · have hgo2 : k < rs.length := by rw [← HN.out]; exact hgo
      obtain ⟨b, o, rfl, ⟨hSb, hbl⟩, c0, c1, c2⟩ := ha.rg2 hgo2
      have c0 := (hb.cell (p := ⟨b, o + k * 3, none⟩) hbl).trans c0
      have c1 := (hb.cell (p := ⟨b, o + k * 3 + 1, none⟩) hbl).trans c1
      have c2 := (hb.cell (p := ⟨b, o + k * 3 + 2, none⟩) hbl).trans c2
      have HSv := Lib.hid (HV.out _ (List.getElem_mem hgo2))
      obtain ⟨z, hz⟩ : ∃ z, sizeF (rs[k]'hgo2).v = z := ⟨_, rfl⟩
      have HZ := Lib.hid (show anyBad ((rs.take (k + 1)).map rgK) = decide (z = 0) by rw [anyBad_take1 hgo2, HC.out, hz]; rfl)
      have HZs := Lib.hid hz
      clear hz
      generalize rs[k]'hgo2 = g at *
      obtain ⟨d, v, A2, cp, l⟩ := g
      have hSv2 := HSv.out
      simp only at c0 c1 c2 hSv2
      obtain ⟨m, hm⟩ : ∃ m, m = l.length := ⟨_, rfl⟩
      rw [← hm] at c2
      obtain ⟨W, hW⟩ : ∃ W, W = wr.alloc (.cells #[.bool d, .int .i64 v, .slice A2 m cp] 52) := ⟨_, rfl⟩
      obtain ⟨B, hB⟩ : ∃ B, B = wr.heap.size := ⟨_, rfl⟩
      have h0 : Below wr.heap.size wr W := by rw [hW]; exact (Below.refl _ _).alloc (Nat.le_refl _) _
      have k0 : W.cell? ⟨B, 0, none⟩ = some (.bool d) := by rw [hW, hB]; simp [go_sem]
      have k1 : W.cell? ⟨B, 1, none⟩ = some (.int .i64 v) := by rw [hW, hB]; simp [go_sem]
      have k2 : W.cell? ⟨B, 2, none⟩ = some (.slice A2 m cp) := by rw [hW, hB]; simp [go_sem]
      have hbW := hb.trans (h0.mono hb.size)
      have HW := Lib.hid hW
      have HB := Lib.hid hB
      clear hW hB hm hgo2 ha
      go_wp2_with (fail)
      rw [← HW.out, ← HB.out]
      refine (fenceSize_c d v (.slice A2 m cp) z W hSv2 HZs.out).mono ?_
      rintro e w1 ⟨rfl, h1⟩
      have h2 := hbW.trans (h1.mono hbW.size)
      clear c0 c1 c2 k0 k1 k2
      by_cases ez : z = 0
      · have HE := Lib.hid (show r = false by rw [← HR.out, anyBad_of_take (by rw [HZ.out, decide_eq_true ez])]; rfl)
        subst ez
        go_wp2
        go_ret
        exact ⟨by rw [HE.out]; rfl, h2⟩
      · have ez2 : (z == 0) = false := by rw [beq_eq_false_iff_ne]; exact ez
        have HE := Lib.hid (show anyBad ((rs.take (k + 1)).map rgK) = false by rw [HZ.out, decide_eq_false ez])
        clear ez
        go_wp2
        go_roundw
        case rel => exact ⟨k + 1, by go_num, by rw [← HN.out]; omega, HE.out, h2⟩
        case measure => simp [intOf]; omega
    · have HE := Lib.hid (show r = true by
        have : rs.take k = rs := List.take_of_length_le (by rw [← HN.out]; omega)
        rw [← HR.out, ← this, HC.out]; rfl)
      go_wp2
      go_ret
      exact ⟨by rw [HE.out]; rfl, hb⟩
theorem rgP_take1 {rs : List Rg} {k : Nat} (h : k < rs.length) : rgP (rs.take (k + 1)) = (rgP (rs.take k) || decide (0 < (rs[k]).l.length)) := by
  rw [List.take_succ_eq_append_getElem h]; unfold rgP; rw [List.any_append]; simp
theorem rgP_ofH {rs : List Rg} {k : Nat} (h : rgP (rs.take k) = true) : rgP rs = true := by
  unfold rgP at h ⊢
  rw [List.any_eq_true] at h ⊢
  obtain ⟨x, hx, hb⟩ := h
  exact ⟨x, List.mem_of_mem_take hx, hb⟩
def URelH (w W : World) (rs : List Rg) (i : Value) (wr : World) : Prop := ∃ k : Nat, i = .int .i64 k ∧ k ≤ rs.length ∧ rgP (rs.take k) = false ∧ Below W.heap.size W wr
set_option maxHeartbeats 4000000 in
theorem hasUn_h (op vs pts : Int) (A : Option Addr) (n c : Nat) (rs : List Rg) (r : Bool) (T : Nat → Prop) (w : World) (ha : RowR w T 3 rgC A rs) (hn : n = rs.length) (hl : n ≤ 9223372036854775807) (hop : 1 ≤ op ∧ op ≤ 5) (hr : (rgP rs || unusedH ⟨op, vs, rs.map rgK, pts⟩) = r) :
    Calls Tryd.prog 39 #[.agg #[.int .i64 op, .int .i64 vs, .slice A n c, .int .i64 pts]] w fun e w' => e = .returned (.bool r) ∧ Below w.heap.size w w' := by
  obtain ⟨W0, hW0⟩ : ∃ W, W = w.alloc (.cells #[.int .i64 op, .int .i64 vs, .slice A n c, .int .i64 pts] 25) := ⟨_, rfl⟩
  obtain ⟨q0, _, g0, g1, g2, g3⟩ := box4 hW0
  obtain ⟨bg, hbg⟩ : ∃ b, b = w.heap.size := ⟨_, rfl⟩
  rw [← hbg] at g0 g1 g2 g3
  have HW0 := Lib.hid hW0
  have Hbg := Lib.hid hbg
  have HN := Lib.hid hn
  have HR := Lib.hid hr
  have ha := (ha.next q0).now (fun _ => Nat.succ_pos 2)
  clear hW0 hbg hr hn
  go_enter Tryd.func39, Tryd.ntmps39
  go_upto_region 1 with (fail)
  rw [← HW0.out, ← Hbg.out]
  go_wp2
  go_loopw [8] (fun i wr => URelH w W0 rs i wr) (fun i _ => n - (intOf i).toNat)
  case atStart => exact ⟨0, rfl, Nat.zero_le _, rfl, Below.refl _ _⟩
  case round =>
    obtain ⟨k, rfl, hk, hc0, hb⟩ := hrel
    rw [← HN.out] at hk
    have HC := Lib.hid hc0
    clear hc0
    have g0 := (hb.cell (p := ⟨bg, 0, none⟩) (lt_of_cell g0)).trans g0
    have g1 := (hb.cell (p := ⟨bg, 1, none⟩) (lt_of_cell g1)).trans g1
    have g2 := (hb.cell (p := ⟨bg, 2, none⟩) (lt_of_cell g2)).trans g2
    have g3 := (hb.cell (p := ⟨bg, 3, none⟩) (lt_of_cell g3)).trans g3
    by_cases hgo : k < n
    · have hgo2 : k < rs.length := by rw [← HN.out]; exact hgo
      obtain ⟨b, o, rfl, ⟨hSb, hbl⟩, c0, c1, c2⟩ := ha.rg2 hgo2
      have c0 := (hb.cell (p := ⟨b, o + k * 3, none⟩) hbl).trans c0
      have c1 := (hb.cell (p := ⟨b, o + k * 3 + 1, none⟩) hbl).trans c1
      have c2 := (hb.cell (p := ⟨b, o + k * 3 + 2, none⟩) hbl).trans c2
      have HZ := Lib.hid (rgP_take1 hgo2)
      generalize rs[k]'hgo2 = g at *
      obtain ⟨d, v, A2, cp, l⟩ := g
      have hZ2 := HZ.out
      simp only at c0 c1 c2 hZ2
      obtain ⟨m, hm⟩ : ∃ m, m = l.length := ⟨_, rfl⟩
      rw [← hm] at c2 hZ2
      have HZ3 := Lib.hid hZ2
      obtain ⟨W, hW⟩ : ∃ W, W = wr.alloc (.cells #[.bool d, .int .i64 v, .slice A2 m cp] 52) := ⟨_, rfl⟩
      obtain ⟨B, hB⟩ : ∃ B, B = wr.heap.size := ⟨_, rfl⟩
      have h0 : Below wr.heap.size wr W := by rw [hW]; exact (Below.refl _ _).alloc (Nat.le_refl _) _
      have k0 : W.cell? ⟨B, 0, none⟩ = some (.bool d) := by rw [hW, hB]; simp [go_sem]
      have k1 : W.cell? ⟨B, 1, none⟩ = some (.int .i64 v) := by rw [hW, hB]; simp [go_sem]
      have k2 : W.cell? ⟨B, 2, none⟩ = some (.slice A2 m cp) := by rw [hW, hB]; simp [go_sem]
      have hbW := hb.trans (h0.mono hb.size)
      have HW := Lib.hid hW
      have HB := Lib.hid hB
      clear hW hB hm hgo2 ha hZ2 HZ
      by_cases em : m = 0
      · subst em
        have HE := Lib.hid (show rgP (rs.take (k + 1)) = false by rw [HZ3.out, HC.out]; rfl)
        go_wp2
        go_roundw
        case rel => exact ⟨k + 1, by go_num, by rw [← HN.out]; omega, HE.out, by rw [HW.out] at hbW; exact hbW⟩
        case measure => simp [intOf]; omega
      · have em2 : ((m : Int) != 0) = true := by rw [bne_iff_ne]; omega
        have HE := Lib.hid (show r = true by rw [← HR.out, rgP_ofH (k := k + 1) (by rw [HZ3.out, HC.out, decide_eq_true (by omega)]; rfl)]; rfl)
        clear em
        go_wp2
        go_ret
        exact ⟨by rw [HE.out]; rfl, by rw [HW.out] at hbW; exact q0.trans (hbW.mono q0.size)⟩
    · have HP := Lib.hid (show unusedH ⟨op, vs, rs.map rgK, pts⟩ = r by
        have : rs.take k = rs := List.take_of_length_le (by rw [← HN.out]; omega)
        rw [← HR.out, ← this, HC.out, this]; rfl)
      clear ha hk
      rcases (show op = 1 ∨ op = 2 ∨ op = 3 ∨ op = 4 ∨ op = 5 by omega) with rfl | rfl | rfl | rfl | rfl
      · by_cases ev : vs = 0
        · have dv : (vs != 0) = false := by rw [bne_eq_false_iff_eq]; omega
          by_cases en : n = 0
          · have dn : ((n : Int) != 0) = false := by rw [bne_eq_false_iff_eq]; omega
            by_cases ep : pts = 0
            · have dp : (pts != 0) = false := by rw [bne_eq_false_iff_eq]; omega
              have HE := Lib.hid (show r = false by rw [← HP.out]; unfold unusedH; rw [List.length_map, ← HN.out]; simp [ev, en, ep] <;> omega)
              clear ev en ep
              go_wp2_with (fail)
              refine (usesV_h 1 false _ rfl).mono ?_
              rintro e w2_ ⟨rfl, hw2_⟩
              obtain rfl := hw2_.symm
              clear hw2_
              go_wp2_with (fail)
              refine (usesR_h 1 false _ rfl).mono ?_
              rintro e w2_ ⟨rfl, hw2_⟩
              obtain rfl := hw2_.symm
              clear hw2_
              go_wp2_with (fail)
              refine (usesP_h 1 false _ rfl).mono ?_
              rintro e w2_ ⟨rfl, hw2_⟩
              obtain rfl := hw2_.symm
              clear hw2_
              go_wp2
              go_ret
              exact ⟨by rw [HE.out]; rfl, q0.trans (hb.mono q0.size)⟩
            · have dp : (pts != 0) = true := by rw [bne_iff_ne]; omega
              have HE := Lib.hid (show r = true by rw [← HP.out]; unfold unusedH; rw [List.length_map, ← HN.out]; simp [ev, en, ep] <;> omega)
              clear ev en ep
              go_wp2_with (fail)
              refine (usesV_h 1 false _ rfl).mono ?_
              rintro e w2_ ⟨rfl, hw2_⟩
              obtain rfl := hw2_.symm
              clear hw2_
              go_wp2_with (fail)
              refine (usesR_h 1 false _ rfl).mono ?_
              rintro e w2_ ⟨rfl, hw2_⟩
              obtain rfl := hw2_.symm
              clear hw2_
              go_wp2_with (fail)
              refine (usesP_h 1 false _ rfl).mono ?_
              rintro e w2_ ⟨rfl, hw2_⟩
              obtain rfl := hw2_.symm
              clear hw2_
              go_wp2
              go_ret
              exact ⟨by rw [HE.out]; rfl, q0.trans (hb.mono q0.size)⟩
          · have dn : ((n : Int) != 0) = true := by rw [bne_iff_ne]; omega
            have HE := Lib.hid (show r = true by rw [← HP.out]; unfold unusedH; rw [List.length_map, ← HN.out]; simp [ev, en] <;> omega)
            clear ev en
            go_wp2_with (fail)
            refine (usesV_h 1 false _ rfl).mono ?_
            rintro e w2_ ⟨rfl, hw2_⟩
            obtain rfl := hw2_.symm
            clear hw2_
            go_wp2_with (fail)
            refine (usesR_h 1 false _ rfl).mono ?_
            rintro e w2_ ⟨rfl, hw2_⟩
            obtain rfl := hw2_.symm
            clear hw2_
            go_wp2
            go_ret
            exact ⟨by rw [HE.out]; rfl, q0.trans (hb.mono q0.size)⟩
        · have dv : (vs != 0) = true := by rw [bne_iff_ne]; omega
          have HE := Lib.hid (show r = true by rw [← HP.out]; unfold unusedH; rw [List.length_map, ← HN.out]; simp [ev] <;> omega)
          clear ev
          go_wp2_with (fail)
          refine (usesV_h 1 false _ rfl).mono ?_
          rintro e w2_ ⟨rfl, hw2_⟩
          obtain rfl := hw2_.symm
          clear hw2_
          go_wp2
          go_ret
          exact ⟨by rw [HE.out]; rfl, q0.trans (hb.mono q0.size)⟩
      · by_cases ev : vs = 0
        · have dv : (vs != 0) = false := by rw [bne_eq_false_iff_eq]; omega
          by_cases en : n = 0
          · have dn : ((n : Int) != 0) = false := by rw [bne_eq_false_iff_eq]; omega
            by_cases ep : pts = 0
            · have dp : (pts != 0) = false := by rw [bne_eq_false_iff_eq]; omega
              have HE := Lib.hid (show r = false by rw [← HP.out]; unfold unusedH; rw [List.length_map, ← HN.out]; simp [ev, en, ep] <;> omega)
              clear ev en ep
              go_wp2_with (fail)
              refine (usesV_h 2 false _ rfl).mono ?_
              rintro e w2_ ⟨rfl, hw2_⟩
              obtain rfl := hw2_.symm
              clear hw2_
              go_wp2_with (fail)
              refine (usesR_h 2 false _ rfl).mono ?_
              rintro e w2_ ⟨rfl, hw2_⟩
              obtain rfl := hw2_.symm
              clear hw2_
              go_wp2_with (fail)
              refine (usesP_h 2 false _ rfl).mono ?_
              rintro e w2_ ⟨rfl, hw2_⟩
              obtain rfl := hw2_.symm
              clear hw2_
              go_wp2
              go_ret
              exact ⟨by rw [HE.out]; rfl, q0.trans (hb.mono q0.size)⟩
            · have dp : (pts != 0) = true := by rw [bne_iff_ne]; omega
              have HE := Lib.hid (show r = true by rw [← HP.out]; unfold unusedH; rw [List.length_map, ← HN.out]; simp [ev, en, ep] <;> omega)
              clear ev en ep
              go_wp2_with (fail)
              refine (usesV_h 2 false _ rfl).mono ?_
              rintro e w2_ ⟨rfl, hw2_⟩
              obtain rfl := hw2_.symm
              clear hw2_
              go_wp2_with (fail)
              refine (usesR_h 2 false _ rfl).mono ?_
              rintro e w2_ ⟨rfl, hw2_⟩
              obtain rfl := hw2_.symm
              clear hw2_
              go_wp2_with (fail)
              refine (usesP_h 2 false _ rfl).mono ?_
              rintro e w2_ ⟨rfl, hw2_⟩
              obtain rfl := hw2_.symm
              clear hw2_
              go_wp2
              go_ret
              exact ⟨by rw [HE.out]; rfl, q0.trans (hb.mono q0.size)⟩
          · have dn : ((n : Int) != 0) = true := by rw [bne_iff_ne]; omega
            have HE := Lib.hid (show r = true by rw [← HP.out]; unfold unusedH; rw [List.length_map, ← HN.out]; simp [ev, en] <;> omega)
            clear ev en
            go_wp2_with (fail)
            refine (usesV_h 2 false _ rfl).mono ?_
            rintro e w2_ ⟨rfl, hw2_⟩
            obtain rfl := hw2_.symm
            clear hw2_
            go_wp2_with (fail)
            refine (usesR_h 2 false _ rfl).mono ?_
            rintro e w2_ ⟨rfl, hw2_⟩
            obtain rfl := hw2_.symm
            clear hw2_
            go_wp2
            go_ret
            exact ⟨by rw [HE.out]; rfl, q0.trans (hb.mono q0.size)⟩
        · have dv : (vs != 0) = true := by rw [bne_iff_ne]; omega
          have HE := Lib.hid (show r = true by rw [← HP.out]; unfold unusedH; rw [List.length_map, ← HN.out]; simp [ev] <;> omega)
          clear ev
          go_wp2_with (fail)
          refine (usesV_h 2 false _ rfl).mono ?_
          rintro e w2_ ⟨rfl, hw2_⟩
          obtain rfl := hw2_.symm
          clear hw2_
          go_wp2
          go_ret
          exact ⟨by rw [HE.out]; rfl, q0.trans (hb.mono q0.size)⟩
      · by_cases en : n = 0
        · have dn : ((n : Int) != 0) = false := by rw [bne_eq_false_iff_eq]; omega
          by_cases ep : pts = 0
          · have dp : (pts != 0) = false := by rw [bne_eq_false_iff_eq]; omega
            have HE := Lib.hid (show r = false by rw [← HP.out]; unfold unusedH; rw [List.length_map, ← HN.out]; simp [en, ep] <;> omega)
            clear en ep
            go_wp2_with (fail)
            refine (usesV_h 3 true _ rfl).mono ?_
            rintro e w2_ ⟨rfl, hw2_⟩
            obtain rfl := hw2_.symm
            clear hw2_
            go_wp2_with (fail)
            refine (usesR_h 3 false _ rfl).mono ?_
            rintro e w2_ ⟨rfl, hw2_⟩
            obtain rfl := hw2_.symm
            clear hw2_
            go_wp2_with (fail)
            refine (usesP_h 3 false _ rfl).mono ?_
            rintro e w2_ ⟨rfl, hw2_⟩
            obtain rfl := hw2_.symm
            clear hw2_
            go_wp2
            go_ret
            exact ⟨by rw [HE.out]; rfl, q0.trans (hb.mono q0.size)⟩
          · have dp : (pts != 0) = true := by rw [bne_iff_ne]; omega
            have HE := Lib.hid (show r = true by rw [← HP.out]; unfold unusedH; rw [List.length_map, ← HN.out]; simp [en, ep] <;> omega)
            clear en ep
            go_wp2_with (fail)
            refine (usesV_h 3 true _ rfl).mono ?_
            rintro e w2_ ⟨rfl, hw2_⟩
            obtain rfl := hw2_.symm
            clear hw2_
            go_wp2_with (fail)
            refine (usesR_h 3 false _ rfl).mono ?_
            rintro e w2_ ⟨rfl, hw2_⟩
            obtain rfl := hw2_.symm
            clear hw2_
            go_wp2_with (fail)
            refine (usesP_h 3 false _ rfl).mono ?_
            rintro e w2_ ⟨rfl, hw2_⟩
            obtain rfl := hw2_.symm
            clear hw2_
            go_wp2
            go_ret
            exact ⟨by rw [HE.out]; rfl, q0.trans (hb.mono q0.size)⟩
        · have dn : ((n : Int) != 0) = true := by rw [bne_iff_ne]; omega
          have HE := Lib.hid (show r = true by rw [← HP.out]; unfold unusedH; rw [List.length_map, ← HN.out]; simp [en] <;> omega)
          clear en
          go_wp2_with (fail)
          refine (usesV_h 3 true _ rfl).mono ?_
          rintro e w2_ ⟨rfl, hw2_⟩
          obtain rfl := hw2_.symm
          clear hw2_
          go_wp2_with (fail)
          refine (usesR_h 3 false _ rfl).mono ?_
          rintro e w2_ ⟨rfl, hw2_⟩
          obtain rfl := hw2_.symm
          clear hw2_
          go_wp2
          go_ret
          exact ⟨by rw [HE.out]; rfl, q0.trans (hb.mono q0.size)⟩
      · by_cases ev : vs = 0
        · have dv : (vs != 0) = false := by rw [bne_eq_false_iff_eq]; omega
          by_cases ep : pts = 0
          · have dp : (pts != 0) = false := by rw [bne_eq_false_iff_eq]; omega
            have HE := Lib.hid (show r = false by rw [← HP.out]; unfold unusedH; rw [List.length_map, ← HN.out]; simp [ev, ep] <;> omega)
            clear ev ep
            go_wp2_with (fail)
            refine (usesV_h 4 false _ rfl).mono ?_
            rintro e w2_ ⟨rfl, hw2_⟩
            obtain rfl := hw2_.symm
            clear hw2_
            go_wp2_with (fail)
            refine (usesR_h 4 true _ rfl).mono ?_
            rintro e w2_ ⟨rfl, hw2_⟩
            obtain rfl := hw2_.symm
            clear hw2_
            go_wp2_with (fail)
            refine (usesP_h 4 false _ rfl).mono ?_
            rintro e w2_ ⟨rfl, hw2_⟩
            obtain rfl := hw2_.symm
            clear hw2_
            go_wp2
            go_ret
            exact ⟨by rw [HE.out]; rfl, q0.trans (hb.mono q0.size)⟩
          · have dp : (pts != 0) = true := by rw [bne_iff_ne]; omega
            have HE := Lib.hid (show r = true by rw [← HP.out]; unfold unusedH; rw [List.length_map, ← HN.out]; simp [ev, ep] <;> omega)
            clear ev ep
            go_wp2_with (fail)
            refine (usesV_h 4 false _ rfl).mono ?_
            rintro e w2_ ⟨rfl, hw2_⟩
            obtain rfl := hw2_.symm
            clear hw2_
            go_wp2_with (fail)
            refine (usesR_h 4 true _ rfl).mono ?_
            rintro e w2_ ⟨rfl, hw2_⟩
            obtain rfl := hw2_.symm
            clear hw2_
            go_wp2_with (fail)
            refine (usesP_h 4 false _ rfl).mono ?_
            rintro e w2_ ⟨rfl, hw2_⟩
            obtain rfl := hw2_.symm
            clear hw2_
            go_wp2
            go_ret
            exact ⟨by rw [HE.out]; rfl, q0.trans (hb.mono q0.size)⟩
        · have dv : (vs != 0) = true := by rw [bne_iff_ne]; omega
          have HE := Lib.hid (show r = true by rw [← HP.out]; unfold unusedH; rw [List.length_map, ← HN.out]; simp [ev] <;> omega)
          clear ev
          go_wp2_with (fail)
          refine (usesV_h 4 false _ rfl).mono ?_
          rintro e w2_ ⟨rfl, hw2_⟩
          obtain rfl := hw2_.symm
          clear hw2_
          go_wp2
          go_ret
          exact ⟨by rw [HE.out]; rfl, q0.trans (hb.mono q0.size)⟩
      · by_cases ev : vs = 0
        · have dv : (vs != 0) = false := by rw [bne_eq_false_iff_eq]; omega
          have HE := Lib.hid (show r = false by rw [← HP.out]; unfold unusedH; rw [List.length_map, ← HN.out]; simp [ev] <;> omega)
          clear ev
          go_wp2_with (fail)
          refine (usesV_h 5 false _ rfl).mono ?_
          rintro e w2_ ⟨rfl, hw2_⟩
          obtain rfl := hw2_.symm
          clear hw2_
          go_wp2_with (fail)
          refine (usesR_h 5 true _ rfl).mono ?_
          rintro e w2_ ⟨rfl, hw2_⟩
          obtain rfl := hw2_.symm
          clear hw2_
          go_wp2_with (fail)
          refine (usesP_h 5 true _ rfl).mono ?_
          rintro e w2_ ⟨rfl, hw2_⟩
          obtain rfl := hw2_.symm
          clear hw2_
          go_wp2
          go_ret
          exact ⟨by rw [HE.out]; rfl, q0.trans (hb.mono q0.size)⟩
        · have dv : (vs != 0) = true := by rw [bne_iff_ne]; omega
          have HE := Lib.hid (show r = true by rw [← HP.out]; unfold unusedH; rw [List.length_map, ← HN.out]; simp [ev] <;> omega)
          clear ev
          go_wp2_with (fail)
          refine (usesV_h 5 false _ rfl).mono ?_
          rintro e w2_ ⟨rfl, hw2_⟩
          obtain rfl := hw2_.symm
          clear hw2_
          go_wp2
          go_ret
          exact ⟨by rw [HE.out]; rfl, q0.trans (hb.mono q0.size)⟩
end Go.Proofs.YtokabljeekokmaaDoor
