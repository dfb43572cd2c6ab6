/-
  The contracts of package header over the landed code: check. (Written by hdr17.py.)
-/
import Derived.Test.YtokabljeekokmaaDoorHdrA
namespace Go.Proofs.YtokabljeekokmaaDoor
open Go.RowKit Go.Maps
set_option maxRecDepth 100000
set_option linter.unusedVariables false
set_option linter.unusedSimpArgs false

theorem un_or (p u : Bool) : (if u = true then (2 : Int) else if p = true then 2 else 0) = if (p || u) = true then 2 else 0 := by cases p <;> cases u <;> rfl
set_option maxHeartbeats 4000000 in
theorem check_h (op vs pts : Int) (A : Option Addr) (n c : Nat) (rs : List Rg) (r : Int) (T : Nat → Prop) (w : World) (ha : RowR w T 3 rgC A rs) (hv : ∀ x ∈ rs, S x.v) (hn : n = rs.length) (hl : n ≤ 9223372036854775807) (hr : formErr ⟨op, vs, rs.map rgK, pts⟩ (rgP rs) = r) :
    Calls Tryd.prog 35 #[.agg #[.int .i64 op, .int .i64 vs, .slice A n c, .int .i64 pts]] w fun e w' => e = .returned (.int .i64 r) ∧ Below w.heap.size w w' := by
  obtain ⟨W0, hW0⟩ : ∃ W, W = w.alloc (.cells #[.int .i64 op, .int .i64 vs, .slice A n c, .int .i64 pts] 25) := ⟨_, rfl⟩
  obtain ⟨q0, _, g0, g1, g2, g3⟩ := box4 hW0
  obtain ⟨bg, hbg⟩ : ∃ b, b = w.heap.size := ⟨_, rfl⟩
  rw [← hbg] at g0 g1 g2 g3
  have HW0 := Lib.hid hW0
  have Hbg := Lib.hid hbg
  have HN := Lib.hid hn
  have HR := Lib.hid hr
  have ha0 := ha.next q0
  clear hW0 hbg hr hn ha
  go_enter Tryd.func35, Tryd.ntmps35
  go_upto_region 1 with (fail)
  rw [← HW0.out, ← Hbg.out]
  by_cases e0 : 1 ≤ op ∧ op ≤ 5
  · have hop : op = 1 ∨ op = 2 ∨ op = 3 ∨ op = 4 ∨ op = 5 := by omega
    clear e0
    rcases hop with rfl | rfl | rfl | rfl | rfl
    · have HR1 := Lib.hid (show r = ( if unusedH ⟨1, vs, rs.map rgK, pts⟩ = true then 2 else if rgP rs = true then 2 else 0) by
        rw [← HR.out]; unfold formErr; rw [if_neg (show ¬ ((1 : Int) < 1 ∨ 5 < (1 : Int)) by decide)]
        simp only [List.length_map, ← HN.out, show ¬ ((1 : Int) = 3) by decide, show ¬ ((4 : Int) ≤ 1) by decide, show ¬ ((1 : Int) = 5) by decide, false_and, if_false])
      go_wp2_with (fail)
      refine (isOp_h 1 true _ rfl).mono ?_
      rintro e w2_ ⟨rfl, hw2_⟩
      obtain rfl := hw2_.symm
      clear hw2_
      go_wp2_with (fail)
      refine (usesV_h 1 false _ rfl).mono ?_
      rintro e w2_ ⟨rfl, hw2_⟩
      obtain rfl := hw2_.symm
      clear hw2_
      go_wp2_with (fail)
      refine (usesR_h 1 false _ rfl).mono ?_
      rintro e w2_ ⟨rfl, hw2_⟩
      obtain rfl := hw2_.symm
      clear hw2_
      go_wp2_with (fail)
      refine (usesR_h 1 false _ rfl).mono ?_
      rintro e w2_ ⟨rfl, hw2_⟩
      obtain rfl := hw2_.symm
      clear hw2_
      go_wp2_with (fail)
      refine (usesP_h 1 false _ rfl).mono ?_
      rintro e w2_ ⟨rfl, hw2_⟩
      obtain rfl := hw2_.symm
      clear hw2_
      obtain ⟨r2, hr2⟩ : ∃ r2, (rgP rs || unusedH ⟨1, vs, rs.map rgK, pts⟩) = r2 := ⟨_, rfl⟩
      have HR2 := Lib.hid hr2
      have HE2 := Lib.hid (show r = if r2 = true then 2 else 0 by rw [HR1.out, ← hr2]; exact un_or _ _)
      clear hr2
      go_wp2_with (fail)
      refine (hasUn_h 1 vs pts A n c rs r2 _ _ ha0 HN.out hl (by decide) HR2.out).mono ?_
      rintro e w3 ⟨rfl, hb3⟩
      have hb3 := q0.trans (hb3.mono q0.size)
      cases r2
      · have HE := Lib.hid (show r = 0 by rw [HE2.out]; rfl)
        go_wp2
        go_ret
        exact ⟨by rw [HE.out]; rfl, hb3⟩
      · have HE := Lib.hid (show r = 2 by rw [HE2.out]; rfl)
        go_wp2
        go_ret
        exact ⟨by rw [HE.out]; rfl, hb3⟩
    · have HR1 := Lib.hid (show r = ( if unusedH ⟨2, vs, rs.map rgK, pts⟩ = true then 2 else if rgP rs = true then 2 else 0) by
        rw [← HR.out]; unfold formErr; rw [if_neg (show ¬ ((2 : Int) < 1 ∨ 5 < (2 : Int)) by decide)]
        simp only [List.length_map, ← HN.out, show ¬ ((2 : Int) = 3) by decide, show ¬ ((4 : Int) ≤ 2) by decide, show ¬ ((2 : Int) = 5) by decide, false_and, if_false])
      go_wp2_with (fail)
      refine (isOp_h 2 true _ rfl).mono ?_
      rintro e w2_ ⟨rfl, hw2_⟩
      obtain rfl := hw2_.symm
      clear hw2_
      go_wp2_with (fail)
      refine (usesV_h 2 false _ rfl).mono ?_
      rintro e w2_ ⟨rfl, hw2_⟩
      obtain rfl := hw2_.symm
      clear hw2_
      go_wp2_with (fail)
      refine (usesR_h 2 false _ rfl).mono ?_
      rintro e w2_ ⟨rfl, hw2_⟩
      obtain rfl := hw2_.symm
      clear hw2_
      go_wp2_with (fail)
      refine (usesR_h 2 false _ rfl).mono ?_
      rintro e w2_ ⟨rfl, hw2_⟩
      obtain rfl := hw2_.symm
      clear hw2_
      go_wp2_with (fail)
      refine (usesP_h 2 false _ rfl).mono ?_
      rintro e w2_ ⟨rfl, hw2_⟩
      obtain rfl := hw2_.symm
      clear hw2_
      obtain ⟨r2, hr2⟩ : ∃ r2, (rgP rs || unusedH ⟨2, vs, rs.map rgK, pts⟩) = r2 := ⟨_, rfl⟩
      have HR2 := Lib.hid hr2
      have HE2 := Lib.hid (show r = if r2 = true then 2 else 0 by rw [HR1.out, ← hr2]; exact un_or _ _)
      clear hr2
      go_wp2_with (fail)
      refine (hasUn_h 2 vs pts A n c rs r2 _ _ ha0 HN.out hl (by decide) HR2.out).mono ?_
      rintro e w3 ⟨rfl, hb3⟩
      have hb3 := q0.trans (hb3.mono q0.size)
      cases r2
      · have HE := Lib.hid (show r = 0 by rw [HE2.out]; rfl)
        go_wp2
        go_ret
        exact ⟨by rw [HE.out]; rfl, hb3⟩
      · have HE := Lib.hid (show r = 2 by rw [HE2.out]; rfl)
        go_wp2
        go_ret
        exact ⟨by rw [HE.out]; rfl, hb3⟩
    · have HR1 := Lib.hid (show r = (if vs < 3 ∨ 64 < vs then 6 else if unusedH ⟨3, vs, rs.map rgK, pts⟩ = true then 2 else if rgP rs = true then 2 else 0) by
        rw [← HR.out]; unfold formErr; rw [if_neg (show ¬ ((3 : Int) < 1 ∨ 5 < (3 : Int)) by decide)]
        simp only [List.length_map, ← HN.out, show ¬ ((4 : Int) ≤ 3) by decide, show ¬ ((3 : Int) = 5) by decide, false_and, if_false, true_and])
      by_cases e1 : 3 ≤ vs ∧ vs ≤ 64
      · replace HR1 := Lib.hid (HR1.out.trans (if_neg (by omega)))
        have HB := Lib.hid (decide_eq_true e1)
        clear e1
        go_wp2_with (fail)
        refine (isOp_h 3 true _ rfl).mono ?_
        rintro e w2_ ⟨rfl, hw2_⟩
        obtain rfl := hw2_.symm
        clear hw2_
        go_wp2_with (fail)
        refine (usesV_h 3 true _ rfl).mono ?_
        rintro e w2_ ⟨rfl, hw2_⟩
        obtain rfl := hw2_.symm
        clear hw2_
        go_wp2_with (fail)
        refine (isPoly_h vs true _ HB.out).mono ?_
        rintro e w2_ ⟨rfl, hw2_⟩
        obtain rfl := hw2_.symm
        clear hw2_
        go_wp2_with (fail)
        refine (usesR_h 3 false _ rfl).mono ?_
        rintro e w2_ ⟨rfl, hw2_⟩
        obtain rfl := hw2_.symm
        clear hw2_
        go_wp2_with (fail)
        refine (usesR_h 3 false _ rfl).mono ?_
        rintro e w2_ ⟨rfl, hw2_⟩
        obtain rfl := hw2_.symm
        clear hw2_
        go_wp2_with (fail)
        refine (usesP_h 3 false _ rfl).mono ?_
        rintro e w2_ ⟨rfl, hw2_⟩
        obtain rfl := hw2_.symm
        clear hw2_
        obtain ⟨r2, hr2⟩ : ∃ r2, (rgP rs || unusedH ⟨3, vs, rs.map rgK, pts⟩) = r2 := ⟨_, rfl⟩
        have HR2 := Lib.hid hr2
        have HE2 := Lib.hid (show r = if r2 = true then 2 else 0 by rw [HR1.out, ← hr2]; exact un_or _ _)
        clear hr2
        go_wp2_with (fail)
        refine (hasUn_h 3 vs pts A n c rs r2 _ _ ha0 HN.out hl (by decide) HR2.out).mono ?_
        rintro e w3 ⟨rfl, hb3⟩
        have hb3 := q0.trans (hb3.mono q0.size)
        cases r2
        · have HE := Lib.hid (show r = 0 by rw [HE2.out]; rfl)
          go_wp2
          go_ret
          exact ⟨by rw [HE.out]; rfl, hb3⟩
        · have HE := Lib.hid (show r = 2 by rw [HE2.out]; rfl)
          go_wp2
          go_ret
          exact ⟨by rw [HE.out]; rfl, hb3⟩
      · have HE := Lib.hid (HR1.out.trans (if_pos (by omega)))
        have HB := Lib.hid (decide_eq_false e1)
        clear e1
        go_wp2_with (fail)
        refine (isOp_h 3 true _ rfl).mono ?_
        rintro e w2_ ⟨rfl, hw2_⟩
        obtain rfl := hw2_.symm
        clear hw2_
        go_wp2_with (fail)
        refine (usesV_h 3 true _ rfl).mono ?_
        rintro e w2_ ⟨rfl, hw2_⟩
        obtain rfl := hw2_.symm
        clear hw2_
        go_wp2_with (fail)
        refine (isPoly_h vs false _ HB.out).mono ?_
        rintro e w2_ ⟨rfl, hw2_⟩
        obtain rfl := hw2_.symm
        clear hw2_
        go_wp2
        go_ret
        exact ⟨by rw [HE.out]; rfl, q0⟩
    · have HR1 := Lib.hid (show r = (if (n : Int) < 1 ∨ 64 < (n : Int) then 6 else if anyBad (rs.map rgK) = true then 7 else if unusedH ⟨4, vs, rs.map rgK, pts⟩ = true then 2 else if rgP rs = true then 2 else 0) by
        rw [← HR.out]; unfold formErr; rw [if_neg (show ¬ ((4 : Int) < 1 ∨ 5 < (4 : Int)) by decide)]
        simp only [List.length_map, ← HN.out, show ¬ ((4 : Int) = 3) by decide, show ((4 : Int) ≤ 4) by decide, show ¬ ((4 : Int) = 5) by decide, false_and, if_false, true_and])
      by_cases e1 : 1 ≤ (n : Int) ∧ (n : Int) ≤ 64
      · replace HR1 := Lib.hid (HR1.out.trans (if_neg (by omega)))
        have HB := Lib.hid (decide_eq_true e1)
        clear e1
        obtain ⟨ba, hba⟩ : ∃ ba, (!anyBad (rs.map rgK)) = ba := ⟨_, rfl⟩
        have HBA := Lib.hid hba
        clear hba
        go_wp2_with (fail)
        refine (isOp_h 4 true _ rfl).mono ?_
        rintro e w2_ ⟨rfl, hw2_⟩
        obtain rfl := hw2_.symm
        clear hw2_
        go_wp2_with (fail)
        refine (usesV_h 4 false _ rfl).mono ?_
        rintro e w2_ ⟨rfl, hw2_⟩
        obtain rfl := hw2_.symm
        clear hw2_
        go_wp2_with (fail)
        refine (usesR_h 4 true _ rfl).mono ?_
        rintro e w2_ ⟨rfl, hw2_⟩
        obtain rfl := hw2_.symm
        clear hw2_
        go_wp2_with (fail)
        refine (isFence_h (n : Int) true _ HB.out).mono ?_
        rintro e w2_ ⟨rfl, hw2_⟩
        obtain rfl := hw2_.symm
        clear hw2_
        go_wp2_with (fail)
        refine (usesR_h 4 true _ rfl).mono ?_
        rintro e w2_ ⟨rfl, hw2_⟩
        obtain rfl := hw2_.symm
        clear hw2_
        go_wp2_with (fail)
        refine (areRegs_h A n c rs ba _ _ ha0 hv HN.out hl HBA.out).mono ?_
        rintro e w2 ⟨rfl, hb2⟩
        have k0 := (hb2.cell (p := ⟨bg, 0, none⟩) (lt_of_cell g0)).trans g0
        have k1 := (hb2.cell (p := ⟨bg, 1, none⟩) (lt_of_cell g1)).trans g1
        have k2 := (hb2.cell (p := ⟨bg, 2, none⟩) (lt_of_cell g2)).trans g2
        have k3 := (hb2.cell (p := ⟨bg, 3, none⟩) (lt_of_cell g3)).trans g3
        have q2 := q0.trans (hb2.mono q0.size)
        have ha2 := ha0.next hb2
        clear g0 g1 g2 g3 ha0
        cases ba
        · have HE := Lib.hid (HR1.out.trans (if_pos (by have := HBA.out; simpa using this)))
          go_wp2
          go_ret
          exact ⟨by rw [HE.out]; rfl, q2⟩
        · replace HR1 := Lib.hid (HR1.out.trans (if_neg (by have := HBA.out; simpa using this)))
          go_wp2_with (fail)
          refine (usesP_h 4 false _ rfl).mono ?_
          rintro e w2_ ⟨rfl, hw2_⟩
          obtain rfl := hw2_.symm
          clear hw2_
          obtain ⟨r2, hr2⟩ : ∃ r2, (rgP rs || unusedH ⟨4, vs, rs.map rgK, pts⟩) = r2 := ⟨_, rfl⟩
          have HR2 := Lib.hid hr2
          have HE2 := Lib.hid (show r = if r2 = true then 2 else 0 by rw [HR1.out, ← hr2]; exact un_or _ _)
          clear hr2
          go_wp2_with (fail)
          refine (hasUn_h 4 vs pts A n c rs r2 _ _ ha2 HN.out hl (by decide) HR2.out).mono ?_
          rintro e w3 ⟨rfl, hb3⟩
          have hb3 := q2.trans (hb3.mono q2.size)
          cases r2
          · have HE := Lib.hid (show r = 0 by rw [HE2.out]; rfl)
            go_wp2
            go_ret
            exact ⟨by rw [HE.out]; rfl, hb3⟩
          · have HE := Lib.hid (show r = 2 by rw [HE2.out]; rfl)
            go_wp2
            go_ret
            exact ⟨by rw [HE.out]; rfl, hb3⟩
      · have HE := Lib.hid (HR1.out.trans (if_pos (by omega)))
        have HB := Lib.hid (decide_eq_false e1)
        clear e1
        go_wp2_with (fail)
        refine (isOp_h 4 true _ rfl).mono ?_
        rintro e w2_ ⟨rfl, hw2_⟩
        obtain rfl := hw2_.symm
        clear hw2_
        go_wp2_with (fail)
        refine (usesV_h 4 false _ rfl).mono ?_
        rintro e w2_ ⟨rfl, hw2_⟩
        obtain rfl := hw2_.symm
        clear hw2_
        go_wp2_with (fail)
        refine (usesR_h 4 true _ rfl).mono ?_
        rintro e w2_ ⟨rfl, hw2_⟩
        obtain rfl := hw2_.symm
        clear hw2_
        go_wp2_with (fail)
        refine (isFence_h (n : Int) false _ HB.out).mono ?_
        rintro e w2_ ⟨rfl, hw2_⟩
        obtain rfl := hw2_.symm
        clear hw2_
        go_wp2
        go_ret
        exact ⟨by rw [HE.out]; rfl, q0⟩
    · have HR1 := Lib.hid (show r = (if (n : Int) < 1 ∨ 64 < (n : Int) then 6 else if anyBad (rs.map rgK) = true then 7 else if pts < 1 ∨ 4096 < pts then 6 else if unusedH ⟨5, vs, rs.map rgK, pts⟩ = true then 2 else if rgP rs = true then 2 else 0) by
        rw [← HR.out]; unfold formErr; rw [if_neg (show ¬ ((5 : Int) < 1 ∨ 5 < (5 : Int)) by decide)]
        simp only [List.length_map, ← HN.out, show ¬ ((5 : Int) = 3) by decide, show ((4 : Int) ≤ 5) by decide, false_and, if_false, true_and])
      by_cases e1 : 1 ≤ (n : Int) ∧ (n : Int) ≤ 64
      · replace HR1 := Lib.hid (HR1.out.trans (if_neg (by omega)))
        have HB := Lib.hid (decide_eq_true e1)
        clear e1
        obtain ⟨ba, hba⟩ : ∃ ba, (!anyBad (rs.map rgK)) = ba := ⟨_, rfl⟩
        have HBA := Lib.hid hba
        clear hba
        go_wp2_with (fail)
        refine (isOp_h 5 true _ rfl).mono ?_
        rintro e w2_ ⟨rfl, hw2_⟩
        obtain rfl := hw2_.symm
        clear hw2_
        go_wp2_with (fail)
        refine (usesV_h 5 false _ rfl).mono ?_
        rintro e w2_ ⟨rfl, hw2_⟩
        obtain rfl := hw2_.symm
        clear hw2_
        go_wp2_with (fail)
        refine (usesR_h 5 true _ rfl).mono ?_
        rintro e w2_ ⟨rfl, hw2_⟩
        obtain rfl := hw2_.symm
        clear hw2_
        go_wp2_with (fail)
        refine (isFence_h (n : Int) true _ HB.out).mono ?_
        rintro e w2_ ⟨rfl, hw2_⟩
        obtain rfl := hw2_.symm
        clear hw2_
        go_wp2_with (fail)
        refine (usesR_h 5 true _ rfl).mono ?_
        rintro e w2_ ⟨rfl, hw2_⟩
        obtain rfl := hw2_.symm
        clear hw2_
        go_wp2_with (fail)
        refine (areRegs_h A n c rs ba _ _ ha0 hv HN.out hl HBA.out).mono ?_
        rintro e w2 ⟨rfl, hb2⟩
        have k0 := (hb2.cell (p := ⟨bg, 0, none⟩) (lt_of_cell g0)).trans g0
        have k1 := (hb2.cell (p := ⟨bg, 1, none⟩) (lt_of_cell g1)).trans g1
        have k2 := (hb2.cell (p := ⟨bg, 2, none⟩) (lt_of_cell g2)).trans g2
        have k3 := (hb2.cell (p := ⟨bg, 3, none⟩) (lt_of_cell g3)).trans g3
        have q2 := q0.trans (hb2.mono q0.size)
        have ha2 := ha0.next hb2
        clear g0 g1 g2 g3 ha0
        cases ba
        · have HE := Lib.hid (HR1.out.trans (if_pos (by have := HBA.out; simpa using this)))
          go_wp2
          go_ret
          exact ⟨by rw [HE.out]; rfl, q2⟩
        · replace HR1 := Lib.hid (HR1.out.trans (if_neg (by have := HBA.out; simpa using this)))
          by_cases e2 : 1 ≤ pts ∧ pts ≤ 4096
          · replace HR1 := Lib.hid (HR1.out.trans (if_neg (by omega)))
            have HB2 := Lib.hid (decide_eq_true e2)
            clear e2
            go_wp2_with (fail)
            refine (usesP_h 5 true _ rfl).mono ?_
            rintro e w2_ ⟨rfl, hw2_⟩
            obtain rfl := hw2_.symm
            clear hw2_
            go_wp2_with (fail)
            refine (isBatch_h pts true _ HB2.out).mono ?_
            rintro e w2_ ⟨rfl, hw2_⟩
            obtain rfl := hw2_.symm
            clear hw2_
            obtain ⟨r2, hr2⟩ : ∃ r2, (rgP rs || unusedH ⟨5, vs, rs.map rgK, pts⟩) = r2 := ⟨_, rfl⟩
            have HR2 := Lib.hid hr2
            have HE2 := Lib.hid (show r = if r2 = true then 2 else 0 by rw [HR1.out, ← hr2]; exact un_or _ _)
            clear hr2
            go_wp2_with (fail)
            refine (hasUn_h 5 vs pts A n c rs r2 _ _ ha2 HN.out hl (by decide) HR2.out).mono ?_
            rintro e w3 ⟨rfl, hb3⟩
            have hb3 := q2.trans (hb3.mono q2.size)
            cases r2
            · have HE := Lib.hid (show r = 0 by rw [HE2.out]; rfl)
              go_wp2
              go_ret
              exact ⟨by rw [HE.out]; rfl, hb3⟩
            · have HE := Lib.hid (show r = 2 by rw [HE2.out]; rfl)
              go_wp2
              go_ret
              exact ⟨by rw [HE.out]; rfl, hb3⟩
          · have HE := Lib.hid (HR1.out.trans (if_pos (by omega)))
            have HB2 := Lib.hid (decide_eq_false e2)
            clear e2
            go_wp2_with (fail)
            refine (usesP_h 5 true _ rfl).mono ?_
            rintro e w2_ ⟨rfl, hw2_⟩
            obtain rfl := hw2_.symm
            clear hw2_
            go_wp2_with (fail)
            refine (isBatch_h pts false _ HB2.out).mono ?_
            rintro e w2_ ⟨rfl, hw2_⟩
            obtain rfl := hw2_.symm
            clear hw2_
            go_wp2
            go_ret
            exact ⟨by rw [HE.out]; rfl, q2⟩
      · have HE := Lib.hid (HR1.out.trans (if_pos (by omega)))
        have HB := Lib.hid (decide_eq_false e1)
        clear e1
        go_wp2_with (fail)
        refine (isOp_h 5 true _ rfl).mono ?_
        rintro e w2_ ⟨rfl, hw2_⟩
        obtain rfl := hw2_.symm
        clear hw2_
        go_wp2_with (fail)
        refine (usesV_h 5 false _ rfl).mono ?_
        rintro e w2_ ⟨rfl, hw2_⟩
        obtain rfl := hw2_.symm
        clear hw2_
        go_wp2_with (fail)
        refine (usesR_h 5 true _ rfl).mono ?_
        rintro e w2_ ⟨rfl, hw2_⟩
        obtain rfl := hw2_.symm
        clear hw2_
        go_wp2_with (fail)
        refine (isFence_h (n : Int) false _ HB.out).mono ?_
        rintro e w2_ ⟨rfl, hw2_⟩
        obtain rfl := hw2_.symm
        clear hw2_
        go_wp2
        go_ret
        exact ⟨by rw [HE.out]; rfl, q0⟩
  · have HE := Lib.hid (show r = 5 by rw [← HR.out]; unfold formErr; rw [if_pos (by simp only; omega)])
    have HB := Lib.hid (decide_eq_false e0)
    clear e0
    go_wp2_with (fail)
    refine (isOp_h op false _ HB.out).mono ?_
    rintro e w2_ ⟨rfl, hw2_⟩
    obtain rfl := hw2_.symm
    go_wp2
    go_ret
    exact ⟨by rw [HE.out]; rfl, q0⟩
end Go.Proofs.YtokabljeekokmaaDoor
