/-
  Layer 10: law TapeNil.
-/
import Derived.Test.YtmgdonkfkpppcaaLaw10
namespace Go.Proofs.Ytmgdonkfkpppcaa
open Go.RowKit Go.Maps
set_option maxRecDepth 100000
set_option linter.unusedVariables false
set_option linter.unusedSimpArgs false

set_option maxHeartbeats 1000000 in
theorem law_tapeNil (k a b : Int) (A : Option Addr) (c : Nat) (l : List Ev) (w : World) (hk : (Lit.int .i64 k).wf = true) (ha : EvsR w (fun _ => True) A l) (hw : WfE l) (hml : l.length ≤ maxLen) :
    Calls Try.prog 7 #[.agg #[.int .i64 k, .int .i64 a, .int .i64 b], .slice A l.length c] w fun e w' => e = .returned (.bool true) ∧ Below w.heap.size w w' := by
  unfold maxLen at hml
  have hb0 : Below w.heap.size w (w.alloc (.cells #[.int .i64 k, .int .i64 a, .int .i64 b] 36)) := (Below.refl _ _).alloc (Nat.le_refl _) _
  by_cases hgt : 1000 < l.length
  · go_enter Try.func7, Try.ntmps7
    go_wp2_with (fail)
    refine (alive10_any _).mono ?_
    rintro e w1 ⟨rfl, hb⟩
    go_wp2
    go_ret
    exact ⟨rfl, hb0.trans (hb.mono hb0.size)⟩
  · by_cases he : l = []
    · have d0 : ((l.length : Int) == 0) = true := by rw [he]; rfl
      have HE := Lib.hid he
      clear he
      go_enter Try.func7, Try.ntmps7
      go_wp2_with (fail)
      refine (tapeNoteNil_any _ _ _ _).mono ?_
      rintro e w0 ⟨rfl, hw0⟩
      obtain rfl := hw0.symm
      go_wp2_with (fail)
      refine (record_any A c l _ _ (ha.next hb0) (by omega) hw).mono ?_
      rintro e w1 ⟨tb, rfl, ht, hb1⟩
      have h1 := hb0.trans (hb1.mono hb0.size)
      have q0 : w1.cell? ⟨w.heap.size, 0, none⟩ = some (.int .i64 k) := (hb1.cell (p := ⟨w.heap.size, 0, none⟩) (by simp)).trans (by simp [go_sem])
      go_wp2_with (fail)
      refine (alive10_any w1).mono ?_
      rintro e w2 ⟨rfl, hb2⟩
      have h2 := h1.trans (hb2.mono h1.size)
      have ht := ht.next hb2
      have hz : w.heap.size < w1.heap.size := by have := hb1.size; simp at this; omega
      have q0 := (hb2.cell (p := ⟨w.heap.size, 0, none⟩) (by simpa using hz)).trans q0
      go_wp2_with (fail)
      refine (tapeLen_r (T := fun _ => True) (r := 0) tapeNil (by simp) rfl).mono ?_
      rintro e w3 ⟨rfl, hb3⟩
      have h3 := h2.trans (hb3.mono h2.size)
      have ht := ht.next hb3
      have hz2 : w.heap.size < w2.heap.size := Nat.lt_of_lt_of_le hz hb2.size
      have q0 := (hb3.cell (p := ⟨w.heap.size, 0, none⟩) (by simpa using hz2)).trans q0
      go_wp2_with (fail)
      refine (tapeEvents_any _ [] (fun _ => True) w3 tapeNil (by simp)).mono ?_
      rintro e w4 ⟨A', c', rfl, _, _, hb4⟩
      have h4 := h3.trans (hb4.mono h3.size)
      have ht := ht.next hb4
      have hz3 : w.heap.size < w3.heap.size := Nat.lt_of_lt_of_le hz2 hb3.size
      have q0 := (hb4.cell (p := ⟨w.heap.size, 0, none⟩) (by simpa using hz3)).trans q0
      go_wp2_with (fail)
      refine (tapeCount_r (T := fun _ => True) (r := 0) tapeNil (by simp) hk rfl).mono ?_
      rintro e w5 ⟨rfl, hb5⟩
      have h5 := h4.trans (hb5.mono h4.size)
      have ht := ht.next hb5
      go_wp2_with (fail)
      refine (tapeEqual_any _ _ [] l true (fun _ => True) _ w5 tapeNil ht.o (by simp) (by omega) (by rw [HE.out]; rfl)).mono ?_
      rintro e w6 ⟨rfl, hb6⟩
      have h6 := h5.trans (hb6.mono h5.size)
      have ht := ht.next hb6
      go_wp2_with (fail)
      refine (tapeFirst_r (T := fun _ => True) (r := -1) tapeNil ht.o (by simp) (by omega) (by rw [HE.out]; rfl)).mono ?_
      rintro e w7 ⟨rfl, hb7⟩
      have h7 := h6.trans (hb7.mono h6.size)
      go_wp2_with (fail)
      refine (tapeFirst_r (T := fun _ => True) (U := fun _ => True) (r := -1) tapeNil tapeNil (by simp) (by simp) rfl).mono ?_
      rintro e w8 ⟨rfl, hb8⟩
      go_wp2
      go_ret
      exact ⟨rfl, h7.trans (hb8.mono h7.size)⟩
    · have d0 : ((l.length : Int) == 0) = false := by rw [beq_eq_false_iff_ne]; have : l.length ≠ 0 := fun h => he (List.length_eq_zero_iff.1 h); omega
      have HE := Lib.hid he
      clear he
      go_enter Try.func7, Try.ntmps7
      go_wp2_with (fail)
      refine (tapeNoteNil_any _ _ _ _).mono ?_
      rintro e w0 ⟨rfl, hw0⟩
      obtain rfl := hw0.symm
      go_wp2_with (fail)
      refine (record_any A c l _ _ (ha.next hb0) (by omega) hw).mono ?_
      rintro e w1 ⟨tb, rfl, ht, hb1⟩
      have h1 := hb0.trans (hb1.mono hb0.size)
      have q0 : w1.cell? ⟨w.heap.size, 0, none⟩ = some (.int .i64 k) := (hb1.cell (p := ⟨w.heap.size, 0, none⟩) (by simp)).trans (by simp [go_sem])
      go_wp2_with (fail)
      refine (alive10_any w1).mono ?_
      rintro e w2 ⟨rfl, hb2⟩
      have h2 := h1.trans (hb2.mono h1.size)
      have ht := ht.next hb2
      have hz : w.heap.size < w1.heap.size := by have := hb1.size; simp at this; omega
      have q0 := (hb2.cell (p := ⟨w.heap.size, 0, none⟩) (by simpa using hz)).trans q0
      go_wp2_with (fail)
      refine (tapeLen_r (T := fun _ => True) (r := 0) tapeNil (by simp) rfl).mono ?_
      rintro e w3 ⟨rfl, hb3⟩
      have h3 := h2.trans (hb3.mono h2.size)
      have ht := ht.next hb3
      have hz2 : w.heap.size < w2.heap.size := Nat.lt_of_lt_of_le hz hb2.size
      have q0 := (hb3.cell (p := ⟨w.heap.size, 0, none⟩) (by simpa using hz2)).trans q0
      go_wp2_with (fail)
      refine (tapeEvents_any _ [] (fun _ => True) w3 tapeNil (by simp)).mono ?_
      rintro e w4 ⟨A', c', rfl, _, _, hb4⟩
      have h4 := h3.trans (hb4.mono h3.size)
      have ht := ht.next hb4
      have hz3 : w.heap.size < w3.heap.size := Nat.lt_of_lt_of_le hz2 hb3.size
      have q0 := (hb4.cell (p := ⟨w.heap.size, 0, none⟩) (by simpa using hz3)).trans q0
      go_wp2_with (fail)
      refine (tapeCount_r (T := fun _ => True) (r := 0) tapeNil (by simp) hk rfl).mono ?_
      rintro e w5 ⟨rfl, hb5⟩
      have h5 := h4.trans (hb5.mono h4.size)
      have ht := ht.next hb5
      go_wp2_with (fail)
      refine (tapeEqual_any _ _ [] l false (fun _ => True) _ w5 tapeNil ht.o (by simp) (by omega) (by rw [decide_eq_false_iff_not]; exact fun h => HE.out h.symm)).mono ?_
      rintro e w6 ⟨rfl, hb6⟩
      have h6 := h5.trans (hb6.mono h5.size)
      have ht := ht.next hb6
      go_wp2_with (fail)
      refine (tapeFirst_r (T := fun _ => True) (r := 0) tapeNil ht.o (by simp) (by omega) (by cases l with | nil => exact absurd rfl HE.out | cons e l => rfl)).mono ?_
      rintro e w7 ⟨rfl, hb7⟩
      have h7 := h6.trans (hb7.mono h6.size)
      go_wp2_with (fail)
      refine (tapeFirst_r (T := fun _ => True) (U := fun _ => True) (r := -1) tapeNil tapeNil (by simp) (by simp) rfl).mono ?_
      rintro e w8 ⟨rfl, hb8⟩
      go_wp2
      go_ret
      exact ⟨rfl, h7.trans (hb8.mono h7.size)⟩
end Go.Proofs.Ytmgdonkfkpppcaa
