/-
  The contract of fence.Size over the landed code.
-/
import Derived.Test.YtokabljeekokmaaDoorRgA
namespace Go.Proofs.YtokabljeekokmaaDoor
open Go.RowKit Go.Maps
set_option maxRecDepth 100000
set_option linter.unusedVariables false
set_option linter.unusedSimpArgs false

theorem isDisc_any (d : Bool) (v : Int) (sl : Value) (r : Bool) (w : World) (hr : (v == 0) = r) :
    Calls Tryd.prog 40 #[.agg #[.bool d, .int .i64 v, sl]] w fun e w' => e = .returned (.bool r) ∧ Below w.heap.size w w' := by
  have h0 : Below w.heap.size w (w.alloc (.cells #[.bool d, .int .i64 v, sl] 52)) := (Below.refl _ _).alloc (Nat.le_refl _) _
  go_enter Tryd.func40, Tryd.ntmps40
  go_wp2
  go_ret
  exact ⟨rfl, h0⟩
theorem fenceSize_c (d : Bool) (v : Int) (sl : Value) (r : Int) (w : World) (hv : S v) (hr : sizeF v = r) :
    Calls Tryd.prog 37 #[.agg #[.bool d, .int .i64 v, sl]] w fun e w' => e = .returned (.int .i64 r) ∧ Below w.heap.size w w' := by
  obtain ⟨W, hW⟩ : ∃ W, W = w.alloc (.cells #[.bool d, .int .i64 v, sl] 52) := ⟨_, rfl⟩
  obtain ⟨B, hB⟩ : ∃ B, B = w.heap.size := ⟨_, rfl⟩
  have h0 : Below w.heap.size w W := by rw [hW]; exact (Below.refl _ _).alloc (Nat.le_refl _) _
  have k1 : W.cell? ⟨B, 1, none⟩ = some (.int .i64 v) := by rw [hW, hB]; simp [go_sem]
  have HW := Lib.hid hW
  have HB := Lib.hid hB
  clear hW hB
  by_cases e0 : v = 0
  · have HR := Lib.hid (show r = 3 by rw [← hr]; unfold sizeF; rw [if_pos e0])
    have HV := Lib.hid (show (v == 0) = true by rw [beq_iff_eq]; exact e0)
    clear hr e0
    go_enter Tryd.func37, Tryd.ntmps37
    go_wp2_with (fail)
    rw [← HW.out, ← HB.out]
    refine (isDisc_any d v sl true W HV.out).mono ?_
    rintro e w1 ⟨rfl, h1⟩
    go_wp2
    go_ret
    exact ⟨by rw [HR.out]; rfl, h0.trans (h1.mono h0.size)⟩
  · have HV := Lib.hid (show (v == 0) = false by rw [beq_eq_false_iff_ne]; exact e0)
    by_cases h3 : 3 ≤ v
    · by_cases h64 : v ≤ 64
      · have HR := Lib.hid (show r = v by rw [← hr]; unfold sizeF; rw [if_neg e0, if_pos ⟨h3, h64⟩])
        clear hr e0
        go_enter Tryd.func37, Tryd.ntmps37
        go_wp2_with (fail)
        rw [← HW.out, ← HB.out]
        refine (isDisc_any d v sl false W HV.out).mono ?_
        rintro e w1 ⟨rfl, h1⟩
        have c1 := (h1.cell (p := ⟨B, 1, none⟩) (lt_of_cell k1)).trans k1
        go_wp2
        go_ret
        exact ⟨by rw [HR.out]; rfl, h0.trans (h1.mono h0.size)⟩
      · have HR := Lib.hid (show r = 0 by rw [← hr]; unfold sizeF; rw [if_neg e0, if_neg (by omega)])
        clear hr e0
        go_enter Tryd.func37, Tryd.ntmps37
        go_wp2_with (fail)
        rw [← HW.out, ← HB.out]
        refine (isDisc_any d v sl false W HV.out).mono ?_
        rintro e w1 ⟨rfl, h1⟩
        have c1 := (h1.cell (p := ⟨B, 1, none⟩) (lt_of_cell k1)).trans k1
        go_wp2
        go_ret
        exact ⟨by rw [HR.out]; rfl, h0.trans (h1.mono h0.size)⟩
    · have HR := Lib.hid (show r = 0 by rw [← hr]; unfold sizeF; rw [if_neg e0, if_neg (by omega)])
      clear hr e0
      go_enter Tryd.func37, Tryd.ntmps37
      go_wp2_with (fail)
      rw [← HW.out, ← HB.out]
      refine (isDisc_any d v sl false W HV.out).mono ?_
      rintro e w1 ⟨rfl, h1⟩
      have c1 := (h1.cell (p := ⟨B, 1, none⟩) (lt_of_cell k1)).trans k1
      go_wp2
      go_ret
      exact ⟨by rw [HR.out]; rfl, h0.trans (h1.mono h0.size)⟩
end Go.Proofs.YtokabljeekokmaaDoor
