/-
  Packed texts: Ref18i, Ref18s.
-/
import Derived.BigQuiet
import Derived.Deep.QuietTactic
import Derived.WalkSpells
import Derived.Test.YtcfdpimpleniaaaDoorP12
namespace Go.Proofs.YtcfdpimpleniaaaDoor
open Go.RowKit
set_option maxRecDepth 100000
set_option linter.unusedVariables false
set_option linter.unusedSimpArgs false

def IsRel (W : World) (l : List Rc) (n : Int) (i : Value) (wr : World) : Prop := ∃ k : Nat, i = .int .i64 k ∧ k ≤ l.length ∧ (∀ (j : Nat) (h : j < l.length), j < k → recOk n j l[j]) ∧ Below W.heap.size W wr
set_option maxHeartbeats 4000000 in
theorem ref18Is_any (op vx pts : Int) (A : Option Addr) (hn hc : Nat) (ks : List (Bool × Int)) (v k : Int) (B : Option Addr) (m d : Nat) (l : List Rc) (r : Bool) (T : Nat → Prop) (w : World) (hop : 1 ≤ op ∧ op ≤ 5) (hl : RowR w T 2 rcC B l) (hm : m = l.length) (hml : m ≤ 9223372036854775807) (hr : isA ⟨op, vx, ks, pts⟩ ⟨v, k, l⟩ = r) :
    Calls Tryd.prog 56 #[.agg #[.int .i64 op, .int .i64 vx, .slice A hn hc, .int .i64 pts], .agg #[.int .i64 v, .int .i64 k, .slice B m d]] w fun e w' => e = .returned (.bool r) ∧ Below w.heap.size w w' := by
  obtain ⟨o, rfl⟩ : ∃ o : Nat, op = o := ⟨op.toNat, by omega⟩
  obtain ⟨mo, hmo⟩ : ∃ mo, mostA o = mo := ⟨_, rfl⟩
  obtain ⟨W, hW⟩ : ∃ W, W = ((w.alloc (.cells #[.int .i64 o, .int .i64 vx, .slice A hn hc, .int .i64 pts] 24)).alloc (.cells #[.int .i64 v, .int .i64 k, .slice B m d] 55)).alloc (.cells #[.int .i64 0, .int .i64 2, .int .i64 2, .int .i64 3, .int .i64 2, .int .i64 1] 119) := ⟨_, rfl⟩
  obtain ⟨b, hb⟩ : ∃ b, b = w.heap.size := ⟨_, rfl⟩
  have h0 : Below w.heap.size w W := by rw [hW]; exact (((Below.refl _ _).alloc (Nat.le_refl _) _).alloc (by simp) _).alloc (by simp; omega) _
  have g0 : W.cell? ⟨b, 0, none⟩ = some (.int .i64 o) := by rw [hW, hb]; simp [go_sem]
  have g3 : W.cell? ⟨b, 3, none⟩ = some (.int .i64 pts) := by rw [hW, hb]; simp [go_sem]
  have a0 : W.cell? ⟨b + 1, 0, none⟩ = some (.int .i64 v) := by rw [hW, hb]; simp [go_sem]
  have a1 : W.cell? ⟨b + 1, 1, none⟩ = some (.int .i64 k) := by rw [hW, hb]; simp [go_sem]
  have a2 : W.cell? ⟨b + 1, 2, none⟩ = some (.slice B m d) := by rw [hW, hb]; simp [go_sem]
  have m0 : W.cell? ⟨b + 1 + 1, o, none⟩ = some (.int .i64 mo) := by
    rw [hW, hb, ← hmo]
    have h5 : o = 1 ∨ o = 2 ∨ o = 3 ∨ o = 4 ∨ o = 5 := by omega
    rcases h5 with rfl | rfl | rfl | rfl | rfl <;> simp [go_sem, mostA]
  have HRow := Lib.hid (hl.next h0)
  have HW := Lib.hid hW
  have HB := Lib.hid hb
  have HR := Lib.hid hr
  have HM := Lib.hid hm
  have HMO := Lib.hid hmo
  have ho6 : (o : Int) < 6 := by omega
  have hbn : b < W.heap.size ∧ b + 1 < W.heap.size := by have := lt_of_cell m0; omega
  clear hW hb hr hm hl hmo
  by_cases c0 : v < 0
  · have HX := Lib.hid (show r = false by rw [← HR.out]; exact isA_head (by simp only; rw [HMO.out, ← HM.out]; omega))
    have d0 : decide (v < 0) = true := decide_eq_true c0
    clear c0
    go_enter Tryd.func56, Tryd.ntmps56
    go_upto_region 2 with (fail)
    rw [← HW.out, ← HB.out]
    go_quiet (fail)
    go_wp2
    go_ret
    exact ⟨by rw [HX.out]; rfl, below_drewN' h0 _⟩
  by_cases c1 : mo < v
  · have HX := Lib.hid (show r = false by rw [← HR.out]; exact isA_head (by simp only; rw [HMO.out, ← HM.out]; omega))
    have d0 : decide (v < 0) = false := decide_eq_false c0
    have d1 : decide (mo < v) = true := decide_eq_true c1
    clear c0 c1
    go_enter Tryd.func56, Tryd.ntmps56
    go_upto_region 2 with (fail)
    rw [← HW.out, ← HB.out]
    go_quiet (fail)
    go_wp2
    go_ret
    exact ⟨by rw [HX.out]; rfl, below_drewN' h0 _⟩
  by_cases c2 : ¬ (m : Int) = pts
  · have HX := Lib.hid (show r = false by rw [← HR.out]; exact isA_head (by simp only; rw [HMO.out, ← HM.out]; omega))
    have d0 : decide (v < 0) = false := decide_eq_false c0
    have d1 : decide (mo < v) = false := decide_eq_false c1
    have d2 : ((m : Int) != pts) = true := by rw [bne_iff_ne]; exact c2
    clear c0 c1 c2
    go_enter Tryd.func56, Tryd.ntmps56
    go_upto_region 2 with (fail)
    rw [← HW.out, ← HB.out]
    go_quiet (fail)
    go_wp2
    go_ret
    exact ⟨by rw [HX.out]; rfl, below_drewN' h0 _⟩
  by_cases c3 : k < 0
  · have HX := Lib.hid (show r = false by rw [← HR.out]; exact isA_head (by simp only; rw [HMO.out, ← HM.out]; omega))
    have d0 : decide (v < 0) = false := decide_eq_false c0
    have d1 : decide (mo < v) = false := decide_eq_false c1
    have d2 : ((m : Int) != pts) = false := by rw [bne_eq_false_iff_eq]; exact Classical.not_not.1 c2
    have d3 : decide (k < 0) = true := decide_eq_true c3
    clear c0 c1 c2 c3
    go_enter Tryd.func56, Tryd.ntmps56
    go_upto_region 2 with (fail)
    rw [← HW.out, ← HB.out]
    go_quiet (fail)
    go_wp2
    go_ret
    exact ⟨by rw [HX.out]; rfl, below_drewN' h0 _⟩
  by_cases c4 : pts < k
  · have HX := Lib.hid (show r = false by rw [← HR.out]; exact isA_head (by simp only; rw [HMO.out, ← HM.out]; omega))
    have d0 : decide (v < 0) = false := decide_eq_false c0
    have d1 : decide (mo < v) = false := decide_eq_false c1
    have d2 : ((m : Int) != pts) = false := by rw [bne_eq_false_iff_eq]; exact Classical.not_not.1 c2
    have d3 : decide (k < 0) = false := decide_eq_false c3
    have d4 : decide (pts < k) = true := decide_eq_true c4
    clear c0 c1 c2 c3 c4
    go_enter Tryd.func56, Tryd.ntmps56
    go_upto_region 2 with (fail)
    rw [← HW.out, ← HB.out]
    go_quiet (fail)
    go_wp2
    go_ret
    exact ⟨by rw [HX.out]; rfl, below_drewN' h0 _⟩
  by_cases c5 : v = 0 ∧ 0 < k
  · have HX := Lib.hid (show r = false by rw [← HR.out]; exact isA_head (by simp only; rw [HMO.out, ← HM.out]; omega))
    have d0 : decide (v < 0) = false := decide_eq_false c0
    have d1 : decide (mo < v) = false := decide_eq_false c1
    have d2 : ((m : Int) != pts) = false := by rw [bne_eq_false_iff_eq]; exact Classical.not_not.1 c2
    have d3 : decide (k < 0) = false := decide_eq_false c3
    have d4 : decide (pts < k) = false := decide_eq_false c4
    have d5 : (v == 0) = true := by rw [beq_iff_eq]; exact c5.1
    have d6 : decide (0 < k) = true := decide_eq_true c5.2
    clear c0 c1 c2 c3 c4 c5
    go_enter Tryd.func56, Tryd.ntmps56
    go_upto_region 2 with (fail)
    rw [← HW.out, ← HB.out]
    go_quiet (fail)
    go_wp2
    go_ret
    exact ⟨by rw [HX.out]; rfl, below_drewN' h0 _⟩
  have HH := Lib.hid (show 0 ≤ v ∧ v ≤ mostA o ∧ (l.length : Int) = pts ∧ 0 ≤ k ∧ k ≤ pts ∧ (v = 0 → k ≤ 0) by rw [HMO.out, ← HM.out]; omega)
  have d0 : decide (v < 0) = false := decide_eq_false c0
  have d1 : decide (mo < v) = false := decide_eq_false c1
  have d2 : ((m : Int) != pts) = false := by rw [bne_eq_false_iff_eq]; exact Classical.not_not.1 c2
  have d3 : decide (k < 0) = false := decide_eq_false c3
  have d4 : decide (pts < k) = false := decide_eq_false c4
  by_cases c6 : v = 0
  · have d5 : (v == 0) = true := by rw [beq_iff_eq]; exact c6
    have d6 : decide (0 < k) = false := decide_eq_false (fun h => c5 ⟨c6, h⟩)
    clear c0 c1 c2 c3 c4 c5 c6
    go_enter Tryd.func56, Tryd.ntmps56
    go_upto_region 2 with (fail)
    rw [← HW.out, ← HB.out]
    go_quiet (fail)
    go_wp2
    go_loopw [6] (fun i wr => IsRel W l k i wr) (fun i _ => m - (intOf i).toNat)
    case atStart => exact ⟨0, rfl, Nat.zero_le _, fun j _ h => absurd h (Nat.not_lt_zero j), below_drewN' (Below.refl _ _) _⟩
    case round =>
      obtain ⟨j, rfl, hj, hok, hb⟩ := hrel
      have z1 := (hb.cell (lt_of_cell a1)).trans a1
      have z2 := (hb.cell (lt_of_cell a2)).trans a2
      have HB2 := Lib.hid hb
      clear g0 g3 a0 a1 a2 m0 d0 d1 d2 d3 d4 d5 d6 hb
      by_cases hgo : j < l.length
      · obtain ⟨bq, oq, rfl, _, hc⟩ := HRow.out.at_ hgo
        have q0 : W.cell? ⟨bq, oq + j * 2, none⟩ = some (.int .u64 (l[j]).live) := hc 0 _ rfl
        have q1 : W.cell? ⟨bq, oq + j * 2 + 1, none⟩ = some (.int .u64 (l[j]).id) := hc 1 _ rfl
        have HNO := Lib.hid (fun e => isA_rec (h := ⟨o, vx, ks, pts⟩) (a := ⟨v, k, l⟩) hgo e)
        have HOK := Lib.hid (fun (e : recOk k j l[j]) => show ∀ (i : Nat) (h : i < l.length), i < j + 1 → recOk k i l[i] from fun i h hi => by
          by_cases ei : i = j
          · subst ei; exact e
          · exact hok i h (by omega))
        have x0 := (HB2.out.cell (lt_of_cell q0)).trans q0
        have x1 := (HB2.out.cell (lt_of_cell q1)).trans q1
        have hjr : (j : Int) < m := by have := HM.out; omega
        clear hc q0 q1 hok
        simp only at HNO
        generalize l[j] = X at x0 x1 HNO HOK
        obtain ⟨a, c⟩ := X
        simp only at x0 x1 HNO HOK
        have hbs := HB2.out.size
        obtain ⟨Wn, hWn⟩ : ∃ Wn, Wn = wr.alloc (.cells #[.int .u64 a, .int .u64 c] 101) := ⟨_, rfl⟩
        obtain ⟨bn, hbn2⟩ : ∃ bn, bn = wr.heap.size := ⟨_, rfl⟩
        have hn0 : Below wr.heap.size wr Wn := by rw [hWn]; exact (Below.refl _ _).alloc (Nat.le_refl _) _
        have n0 : Wn.cell? ⟨bn, 0, none⟩ = some (.int .u64 a) := by rw [hWn, hbn2]; simp [go_sem]
        have n1 : Wn.cell? ⟨bn, 1, none⟩ = some (.int .u64 c) := by rw [hWn, hbn2]; simp [go_sem]
        have y1 := (hn0.cell (lt_of_cell z1)).trans z1
        have y2 := (hn0.cell (lt_of_cell z2)).trans z2
        have HWN := Lib.hid hWn
        have HBN := Lib.hid hbn2
        have hbW2 := HB2.out.trans (hn0.mono hbs)
        clear hWn hbn2
        by_cases e1 : (j : Int) < k
        · have f1 : decide ((j : Int) < k) = true := decide_eq_true e1
          by_cases e2 : a = 1
          · have f2 : (a != 1) = false := by rw [bne_eq_false_iff_eq]; exact e2
            have f3 : decide (k ≤ (j : Int)) = false := decide_eq_false (by omega)
            have HO := Lib.hid (HOK.out ⟨fun _ => e2, fun h => absurd e1 h⟩)
            clear e1 e2
            go_upto_region 8 with (fail)
            rw [← HWN.out, ← HBN.out]
            go_wp2
            go_roundw
            case rel => exact ⟨j + 1, by go_num, hgo, HO.out, hbW2⟩
            case measure => have := HM.out; simp [intOf]; omega
          · have f2 : (a != 1) = true := by rw [bne_iff_ne]; exact e2
            have HX := Lib.hid (show r = false by rw [← HR.out]; exact HNO.out (fun h => e2 (h.1 e1)))
            clear e1 e2
            go_upto_region 8 with (fail)
            rw [← HWN.out, ← HBN.out]
            go_wp2
            go_ret
            exact ⟨by rw [HX.out]; rfl, h0.trans (hbW2.mono h0.size)⟩
        · have f1 : decide ((j : Int) < k) = false := decide_eq_false e1
          have f3 : decide (k ≤ (j : Int)) = true := decide_eq_true (by omega)
          by_cases e2 : a = 0
          · have f2 : (a != 0) = false := by rw [bne_eq_false_iff_eq]; exact e2
            by_cases e3 : c = 0
            · have f4 : (c != 0) = false := by rw [bne_eq_false_iff_eq]; exact e3
              have HO := Lib.hid (HOK.out ⟨fun h => absurd h e1, fun _ => ⟨e2, e3⟩⟩)
              clear e1 e2 e3
              go_upto_region 8 with (fail)
              rw [← HWN.out, ← HBN.out]
              go_wp2
              go_roundw
              case rel => exact ⟨j + 1, by go_num, hgo, HO.out, hbW2⟩
              case measure => have := HM.out; simp [intOf]; omega
            · have f4 : (c != 0) = true := by rw [bne_iff_ne]; exact e3
              have HX := Lib.hid (show r = false by rw [← HR.out]; exact HNO.out (fun h => e3 (h.2 e1).2))
              clear e1 e2 e3
              go_upto_region 8 with (fail)
              rw [← HWN.out, ← HBN.out]
              go_wp2
              go_ret
              exact ⟨by rw [HX.out]; rfl, h0.trans (hbW2.mono h0.size)⟩
          · have f2 : (a != 0) = true := by rw [bne_iff_ne]; exact e2
            have HX := Lib.hid (show r = false by rw [← HR.out]; exact HNO.out (fun h => e2 (h.2 e1).1))
            clear e1 e2
            go_upto_region 8 with (fail)
            rw [← HWN.out, ← HBN.out]
            go_wp2
            go_ret
            exact ⟨by rw [HX.out]; rfl, h0.trans (hbW2.mono h0.size)⟩
      · have hjr : ¬ ((j : Int) < m) := by have := HM.out; omega
        have HX := Lib.hid (show r = true by rw [← HR.out]; exact isA_yes HH.out (fun i h => hok i h (by have h' : i < l.length := h; omega)))
        go_wp2
        go_ret
        exact ⟨by rw [HX.out]; rfl, h0.trans (HB2.out.mono h0.size)⟩
  · have d5 : (v == 0) = false := by rw [beq_eq_false_iff_ne]; exact c6
    clear c0 c1 c2 c3 c4 c5 c6
    go_enter Tryd.func56, Tryd.ntmps56
    go_upto_region 2 with (fail)
    rw [← HW.out, ← HB.out]
    go_quiet (fail)
    go_wp2
    go_loopw [6] (fun i wr => IsRel W l k i wr) (fun i _ => m - (intOf i).toNat)
    case atStart => exact ⟨0, rfl, Nat.zero_le _, fun j _ h => absurd h (Nat.not_lt_zero j), below_drewN' (Below.refl _ _) _⟩
    case round =>
      obtain ⟨j, rfl, hj, hok, hb⟩ := hrel
      have z1 := (hb.cell (lt_of_cell a1)).trans a1
      have z2 := (hb.cell (lt_of_cell a2)).trans a2
      have HB2 := Lib.hid hb
      clear g0 g3 a0 a1 a2 m0 d0 d1 d2 d3 d4 d5 hb
      by_cases hgo : j < l.length
      · obtain ⟨bq, oq, rfl, _, hc⟩ := HRow.out.at_ hgo
        have q0 : W.cell? ⟨bq, oq + j * 2, none⟩ = some (.int .u64 (l[j]).live) := hc 0 _ rfl
        have q1 : W.cell? ⟨bq, oq + j * 2 + 1, none⟩ = some (.int .u64 (l[j]).id) := hc 1 _ rfl
        have HNO := Lib.hid (fun e => isA_rec (h := ⟨o, vx, ks, pts⟩) (a := ⟨v, k, l⟩) hgo e)
        have HOK := Lib.hid (fun (e : recOk k j l[j]) => show ∀ (i : Nat) (h : i < l.length), i < j + 1 → recOk k i l[i] from fun i h hi => by
          by_cases ei : i = j
          · subst ei; exact e
          · exact hok i h (by omega))
        have x0 := (HB2.out.cell (lt_of_cell q0)).trans q0
        have x1 := (HB2.out.cell (lt_of_cell q1)).trans q1
        have hjr : (j : Int) < m := by have := HM.out; omega
        clear hc q0 q1 hok
        simp only at HNO
        generalize l[j] = X at x0 x1 HNO HOK
        obtain ⟨a, c⟩ := X
        simp only at x0 x1 HNO HOK
        have hbs := HB2.out.size
        obtain ⟨Wn, hWn⟩ : ∃ Wn, Wn = wr.alloc (.cells #[.int .u64 a, .int .u64 c] 101) := ⟨_, rfl⟩
        obtain ⟨bn, hbn2⟩ : ∃ bn, bn = wr.heap.size := ⟨_, rfl⟩
        have hn0 : Below wr.heap.size wr Wn := by rw [hWn]; exact (Below.refl _ _).alloc (Nat.le_refl _) _
        have n0 : Wn.cell? ⟨bn, 0, none⟩ = some (.int .u64 a) := by rw [hWn, hbn2]; simp [go_sem]
        have n1 : Wn.cell? ⟨bn, 1, none⟩ = some (.int .u64 c) := by rw [hWn, hbn2]; simp [go_sem]
        have y1 := (hn0.cell (lt_of_cell z1)).trans z1
        have y2 := (hn0.cell (lt_of_cell z2)).trans z2
        have HWN := Lib.hid hWn
        have HBN := Lib.hid hbn2
        have hbW2 := HB2.out.trans (hn0.mono hbs)
        clear hWn hbn2
        by_cases e1 : (j : Int) < k
        · have f1 : decide ((j : Int) < k) = true := decide_eq_true e1
          by_cases e2 : a = 1
          · have f2 : (a != 1) = false := by rw [bne_eq_false_iff_eq]; exact e2
            have f3 : decide (k ≤ (j : Int)) = false := decide_eq_false (by omega)
            have HO := Lib.hid (HOK.out ⟨fun _ => e2, fun h => absurd e1 h⟩)
            clear e1 e2
            go_upto_region 8 with (fail)
            rw [← HWN.out, ← HBN.out]
            go_wp2
            go_roundw
            case rel => exact ⟨j + 1, by go_num, hgo, HO.out, hbW2⟩
            case measure => have := HM.out; simp [intOf]; omega
          · have f2 : (a != 1) = true := by rw [bne_iff_ne]; exact e2
            have HX := Lib.hid (show r = false by rw [← HR.out]; exact HNO.out (fun h => e2 (h.1 e1)))
            clear e1 e2
            go_upto_region 8 with (fail)
            rw [← HWN.out, ← HBN.out]
            go_wp2
            go_ret
            exact ⟨by rw [HX.out]; rfl, h0.trans (hbW2.mono h0.size)⟩
        · have f1 : decide ((j : Int) < k) = false := decide_eq_false e1
          have f3 : decide (k ≤ (j : Int)) = true := decide_eq_true (by omega)
          by_cases e2 : a = 0
          · have f2 : (a != 0) = false := by rw [bne_eq_false_iff_eq]; exact e2
            by_cases e3 : c = 0
            · have f4 : (c != 0) = false := by rw [bne_eq_false_iff_eq]; exact e3
              have HO := Lib.hid (HOK.out ⟨fun h => absurd h e1, fun _ => ⟨e2, e3⟩⟩)
              clear e1 e2 e3
              go_upto_region 8 with (fail)
              rw [← HWN.out, ← HBN.out]
              go_wp2
              go_roundw
              case rel => exact ⟨j + 1, by go_num, hgo, HO.out, hbW2⟩
              case measure => have := HM.out; simp [intOf]; omega
            · have f4 : (c != 0) = true := by rw [bne_iff_ne]; exact e3
              have HX := Lib.hid (show r = false by rw [← HR.out]; exact HNO.out (fun h => e3 (h.2 e1).2))
              clear e1 e2 e3
              go_upto_region 8 with (fail)
              rw [← HWN.out, ← HBN.out]
              go_wp2
              go_ret
              exact ⟨by rw [HX.out]; rfl, h0.trans (hbW2.mono h0.size)⟩
          · have f2 : (a != 0) = true := by rw [bne_iff_ne]; exact e2
            have HX := Lib.hid (show r = false by rw [← HR.out]; exact HNO.out (fun h => e2 (h.2 e1).1))
            clear e1 e2
            go_upto_region 8 with (fail)
            rw [← HWN.out, ← HBN.out]
            go_wp2
            go_ret
            exact ⟨by rw [HX.out]; rfl, h0.trans (hbW2.mono h0.size)⟩
      · have hjr : ¬ ((j : Int) < m) := by have := HM.out; omega
        have HX := Lib.hid (show r = true by rw [← HR.out]; exact isA_yes HH.out (fun i h => hok i h (by have h' : i < l.length := h; omega)))
        go_wp2
        go_ret
        exact ⟨by rw [HX.out]; rfl, h0.trans (HB2.out.mono h0.size)⟩
end Go.Proofs.YtcfdpimpleniaaaDoor
namespace Go.Proofs.YtcfdpimpleniaaaDoor
open Go.RowKit
set_option maxRecDepth 100000
set_option linter.unusedVariables false
set_option linter.unusedSimpArgs false

def RspRel (W : World) (fs : List Int) (l : List Rc) (b j : Value) (wr : World) : Prop := ∃ k : Nat, j = .int .i64 k ∧ k ≤ l.length ∧ EncI W b (fs ++ (l.take k).flatMap rcB) wr
theorem keepW {W w' : World} (hb : Below W.heap.size W w') {a o : Nat} {x : Value} (h : W.cell? ⟨a, o, none⟩ = some x) : w'.cell? ⟨a, o, none⟩ = some x := (hb.cell (p := ⟨a, o, none⟩) (lt_of_cell h)).trans h
theorem isA_parts {h : Hq} {a : An} (e : isA h a = true) : (0 ≤ a.v ∧ a.v ≤ mostA h.op ∧ (a.l.length : Int) = h.pts ∧ 0 ≤ a.n ∧ a.n ≤ h.pts ∧ (a.v = 0 → a.n ≤ 0)) ∧ ∀ x ∈ a.l, x.live = 0 ∨ x.live = 1 := by
  unfold isA at e
  rw [Bool.and_eq_true] at e
  exact ⟨headA_iff.1 e.1, recsA_live e.2⟩
set_option maxHeartbeats 4000000 in
theorem ref18Respond_any (op vx pts : Int) (hA : Option Addr) (hn hc : Nat) (hrs : List Rg) (v k : Int) (B : Option Addr) (m d : Nat) (l : List Rc) (er : Int) (bs : List Int) (w : World)
    (hh : RowR w (fun g => g < w.heap.size) 3 rgC hA hrs) (hhn : hn = hrs.length) (hhl : hn ≤ 9223372036854775807)
    (hl : RowR w (fun g => g < w.heap.size) 2 rcC B l) (hm : m = l.length) (hml : m ≤ 9223372036854775807) (hU : UsR l)
    (he : rspE ⟨op, vx, hrs.map rgK, pts⟩ (rgP hrs) ⟨v, k, l⟩ = er) (hb : (if er = 0 then rspB ⟨op, vx, hrs.map rgK, pts⟩ ⟨v, k, l⟩ else []) = bs) :
    Calls Tryd.prog 20 #[.agg #[.int .i64 op, .int .i64 vx, .slice hA hn hc, .int .i64 pts], .agg #[.int .i64 v, .int .i64 k, .slice B m d]] w (GivesB w er bs) := by
  obtain ⟨W, hW⟩ : ∃ W, W = (w.alloc (.cells #[.int .i64 op, .int .i64 vx, .slice hA hn hc, .int .i64 pts] 24)).alloc (.cells #[.int .i64 v, .int .i64 k, .slice B m d] 55) := ⟨_, rfl⟩
  obtain ⟨b, hb0⟩ : ∃ b, b = w.heap.size := ⟨_, rfl⟩
  have h0 : Below w.heap.size w W := by rw [hW]; exact ((Below.refl _ _).alloc (Nat.le_refl _) _).alloc (by simp) _
  have hWs : W.heap.size = w.heap.size + 2 := by rw [hW]; simp
  have g0 : W.cell? ⟨b, 0, none⟩ = some (.int .i64 op) := by rw [hW, hb0]; simp [go_sem]
  have g1 : W.cell? ⟨b, 1, none⟩ = some (.int .i64 vx) := by rw [hW, hb0]; simp [go_sem]
  have g2 : W.cell? ⟨b, 2, none⟩ = some (.slice hA hn hc) := by rw [hW, hb0]; simp [go_sem]
  have g3 : W.cell? ⟨b, 3, none⟩ = some (.int .i64 pts) := by rw [hW, hb0]; simp [go_sem]
  have a0 : W.cell? ⟨b + 1, 0, none⟩ = some (.int .i64 v) := by rw [hW, hb0]; simp [go_sem]
  have a1 : W.cell? ⟨b + 1, 1, none⟩ = some (.int .i64 k) := by rw [hW, hb0]; simp [go_sem]
  have a2 : W.cell? ⟨b + 1, 2, none⟩ = some (.slice B m d) := by rw [hW, hb0]; simp [go_sem]
  have hbW : b + 1 < W.heap.size := by omega
  obtain ⟨fe, hfe⟩ : ∃ fe, formErr ⟨op, vx, hrs.map rgK, pts⟩ (rgP hrs) = fe := ⟨_, rfl⟩
  have HFE := Lib.hid hfe
  have HHN := Lib.hid hhn
  have HM := Lib.hid hm
  have HE := Lib.hid he
  have HBB := Lib.hid hb
  have HHW := Lib.hid (hh.next h0)
  have HRow := Lib.hid (hl.next h0)
  have HW := Lib.hid hW
  have HB := Lib.hid hb0
  clear hW hb0 hh hl hfe he hb hhn hm
  go_enter Tryd.func20, Tryd.ntmps20
  go_upto_region 1 with (fail)
  rw [← HW.out, ← HB.out]
  go_wp2_with (fail)
  refine (ref17Format_any op vx pts hA hn hc hrs fe _ W (HHW.out.imp fun g hg => by omega) HHN.out hhl HFE.out rfl).mono ?_
  rintro e w1 ⟨v1, rfl, hown1, hb1⟩
  by_cases hf : fe = 0
  · subst hf
    obtain ⟨hk, hpf⟩ := formErr_ok.1 HFE.out
    have HOP := Lib.hid hk.op
    have hop := HOP.out
    simp only at hop
    obtain ⟨q, hq⟩ : ∃ q, isA ⟨op, vx, hrs.map rgK, pts⟩ ⟨v, k, l⟩ = q := ⟨_, rfl⟩
    have HQ := Lib.hid hq
    have HK := Lib.hid hk
    have j0 := keepW hb1 g0
    have j1 := keepW hb1 g1
    have j2 := keepW hb1 g2
    have j3 := keepW hb1 g3
    have j4 := keepW hb1 a0
    have j5 := keepW hb1 a1
    have j6 := keepW hb1 a2
    clear hq hk hpf hown1
    go_wp2_with (fail)
    refine (ref18Is_any op vx pts hA hn hc (hrs.map rgK) v k B m d l q _ w1 hop (HRow.out.next hb1) HM.out hml HQ.out).mono ?_
    rintro e w2 ⟨rfl, hb2⟩
    have hbw2 := hb1.trans (hb2.mono hb1.size)
    clear j0 j1 j2 j3 j4 j5 j6 hb2 hb1
    have HEV := Lib.hid (show rspE ⟨op, vx, hrs.map rgK, pts⟩ (rgP hrs) ⟨v, k, l⟩ = if q then 0 else 10 by unfold rspE; rw [HFE.out, if_neg (by simp), HQ.out])
    cases q with
    | false =>
      have HX := Lib.hid (show er = 10 ∧ bs = [] by
        have h1 : er = 10 := by rw [← HE.out, HEV.out]; rfl
        exact ⟨h1, by rw [← HBB.out, if_neg (by omega)]⟩)
      go_wp2
      exact bodyPost_ret (v := .tuple #[.slice none 0 0, .int .i64 10]) (by simp [results, Tryd.results20, go_sem]) rfl (by rw [HX.out.1]; exact givesB_bad (by decide) HX.out.2 (h0.trans (hbw2.mono h0.size)))
    | true =>
      have HXE := Lib.hid (show er = 0 by rw [← HE.out, HEV.out]; rfl)
      obtain ⟨⟨p1, p2, p3, p4, p5, p6⟩, plive⟩ := isA_parts HQ.out
      simp only at p1 p2 p3 p4 p5 p6 plive
      have hmo : mostA op ≤ 3 := by unfold mostA; split <;> (try split) <;> omega
      have hv3 : 0 ≤ v ∧ v ≤ 3 := by omega
      have hp4096 : pts ≤ 4096 := by
        by_cases e5 : op = 5
        · exact (HK.out.pts5 e5).2
        · have := HK.out.pts0 e5; simp only at this; omega
      have hl4096 : l.length ≤ 4096 := by omega
      have hkb : 0 ≤ k ∧ k ≤ 4096 := by omega
      have HLV := Lib.hid plive
      have e1 : IntKind.u8.wrap v = v := wrap_u8' (by omega) (by omega)
      have j0 := keepW hbw2 g0
      have j4 := keepW hbw2 a0
      have j5 := keepW hbw2 a1
      have j6 := keepW hbw2 a2
      obtain ⟨w3, hw3⟩ : ∃ w3, w3 = w2.alloc (.cells #[.int .u8 0, .int .u8 v] 5) := ⟨_, rfl⟩
      obtain ⟨bl, hbl⟩ : ∃ bl, bl = w2.heap.size := ⟨_, rfl⟩
      have hb3 : Below w2.heap.size w2 w3 := by rw [hw3]; exact (Below.refl _ _).alloc (Nat.le_refl _) _
      have hi3 : EncI W (.slice (some ⟨bl, 0, none⟩) 2 2) [0, v] w3 := by
        refine ⟨?_, hbw2.trans (hb3.mono hbw2.size)⟩
        rw [hw3, hbl]
        exact own_lit [0, v] (by simp) W.heap.size hbw2.size
      have HW3 := Lib.hid hw3
      have HBL := Lib.hid hbl
      clear p1 p2 p3 p4 p5 p6 plive hmo hw3 hbl
      by_cases h5 : op = 5
      · subst h5
        have HFS := Lib.hid (show rspB ⟨5, vx, hrs.map rgK, pts⟩ ⟨v, k, l⟩ = [0, v] ++ [k % 256, k / 256] ++ l.flatMap rcB by unfold rspB; rw [if_pos rfl]; simp)
        have e2 : IntKind.i64.wrap (k.tmod 256) = k % 256 := by rw [Int.tmod_eq_emod_of_nonneg hkb.1]; exact wrap_i64' (by omega) (by omega)
        have e3 : IntKind.i64.wrap (k.tdiv 256) = k / 256 := by rw [Int.tdiv_eq_ediv_of_nonneg hkb.1]; exact wrap_i64' (by omega) (by omega)
        have e2' : k.tmod 256 = k % 256 := Int.tmod_eq_emod_of_nonneg hkb.1
        have e3' : k.tdiv 256 = k / 256 := Int.tdiv_eq_ediv_of_nonneg hkb.1
        have e4 : IntKind.u8.wrap (k % 256) = k % 256 := wrap_u8' (by omega) (by omega)
        have e5 : IntKind.u8.wrap (k / 256) = k / 256 := wrap_u8' (by omega) (by omega)
        go_upto_region 7 with (fail)
        rw [← HW3.out, ← HBL.out]
        have j0 := (hb3.cell (lt_of_cell j0)).trans j0
        have j5 := (hb3.cell (lt_of_cell j5)).trans j5
        have hrow3 := hi3.row
        have hbs3 := hi3.below.size
        clear j4 j6 hb3
        go_wp2_with (first
          | (at_builtin; refine wp_grow_lit rfl _ _ rfl W.heap.size _ [0, v] rfl hrow3 [k % 256, k / 256] 2 2 rfl rfl (by simp) hbs3 ?_
             intro v4 w4 hg4
             have hi4 := hi3.grow hg4))
        clear hrow3 hg4 hi3 hbs3 j0 j5
        generalize v4 = bb at *
        obtain ⟨fs, hfs⟩ : ∃ fs : List Int, fs = [0, v] ++ [k % 256, k / 256] := ⟨_, rfl⟩
        rw [← hfs] at hi4
        have hfl : fs.length ≤ 4 := by rw [hfs]; simp
        have HF2 := Lib.hid hfs
        clear hfs
        go_loopw [8, 9] (fun b j wr => RspRel W fs l b j wr) (fun _ j _ => m - (intOf j).toNat)
        case atStart => exact ⟨0, rfl, Nat.zero_le _, by rw [List.take_zero, List.flatMap_nil, List.append_nil]; exact hi4⟩
        case round =>
          clear hi4
          obtain ⟨j, rfl, hj, hij⟩ := hrel
          have k2 := keepW hij.below a2
          by_cases hjm : j < l.length
          · obtain ⟨pb, po, rfl, hTq, hcq⟩ := HRow.out.at_ hjm
            have p0 : W.cell? ⟨pb, po + j * 2, none⟩ = some (.int .u64 (l[j]).live) := hcq 0 _ rfl
            have p1 : W.cell? ⟨pb, po + j * 2 + 1, none⟩ = some (.int .u64 (l[j]).id) := hcq 1 _ rfl
            have HFL := Lib.hid (flat_snoc rcB hjm)
            have HPS := Lib.hid (hU _ (List.getElem_mem hjm))
            have HL1 := Lib.hid (HLV.out _ (List.getElem_mem hjm))
            have hfl2 := flat_take_le rcB_len l j
            have q0 := keepW hij.below p0
            have q1 := keepW hij.below p1
            clear hcq p0 p1
            generalize l[j] = P at q0 q1 HFL HPS HL1
            have hx1 : 0 ≤ P.live ∧ P.live ≤ 1 := by have := HL1.out; omega
            have e6 : IntKind.u8.wrap P.live = P.live := wrap_u8' (by omega) (by omega)
            have hjr : (j : Int) < m := by have := HM.out; omega
            have hlen : (fs ++ (l.take j).flatMap rcB).length ≤ 100000 := by rw [List.length_append]; omega
            obtain ⟨Y, hY⟩ : ∃ Y, Y = fs ++ (l.take j).flatMap rcB := ⟨_, rfl⟩
            rw [← hY] at hij hlen
            have HY := Lib.hid hY
            have hlow : ∀ g, u8.ownBlock = some g → W.heap.size ≤ g := fun g hg => (World.ownsRow.lt hij.row g hg).1
            have hntB : ¬ u8.ownBlock = some (b + 1) := fun e => by have := hlow _ e; omega
            have hntq : ¬ u8.ownBlock = some pb := fun e => by have := hlow pb e; omega
            have hbs := hij.below.size
            clear hfl2 hY hlow
            go_wp2
            refine dirP_plain (by kernel_rfl) (fun b => u8.ownBlock = some b) 9 [8] 16 [[], [], [(48, 1)], [], [(49, 2), (50, 3)], [(51, 4)], [(52, 5)], [(53, 6)], [(54, 7)], [(47, 0), (55, 8)], [], [(57, 10)], [], [(58, 11), (59, 12)], [(60, 13)], [(61, 14)], [(56, 9), (62, 15)], [(63, 16)]] [(47, 0), (48, 1), (49, 2), (50, 3), (51, 4), (52, 5), (53, 6), (54, 7), (55, 8), (56, 9), (57, 10), (58, 11), (59, 12), (60, 13), (61, 14), (62, 15)] [
                (fun z_ => z_ = u8),
                (fun z_ => z_ = .pointer (some ⟨(b + 1), 2, none⟩)),
                (fun z_ => z_ = .slice (some ⟨pb, po, none⟩) m d),
                (fun z_ => z_ = .int .i64 j),
                (fun z_ => z_ = .pointer (some ⟨pb, po + j * 2, none⟩)),
                (fun z_ => z_ = .pointer (some ⟨pb, po + j * 2, none⟩)),
                (fun z_ => z_ = .int .u64 P.live),
                (fun z_ => z_ = .int .u8 P.live),
                (fun _ => True),
                (fun _ => True),
                (fun z_ => z_ = .pointer (some ⟨(b + 1), 2, none⟩)),
                (fun z_ => z_ = .slice (some ⟨pb, po, none⟩) m d),
                (fun z_ => z_ = .int .i64 j),
                (fun z_ => z_ = .pointer (some ⟨pb, po + j * 2, none⟩)),
                (fun z_ => z_ = .pointer (some ⟨pb, po + j * 2 + 1, none⟩)),
                (fun z_ => z_ = .int .u64 P.id)
              ] [(fun _ _ => True), (fun _ _ => True), (fun _ _ => True), (fun _ _ => True), (fun _ _ => True), (fun _ _ => True), (fun _ _ => True), (fun _ _ => True), (fun z_ w_ => ∃ g, z_ = .slice (some ⟨g, 0, none⟩) 1 1 ∧ RowR w_ (fun _ => True) 1 byC (some ⟨g, 0, none⟩) [P.live]), (fun _ _ => True), (fun _ _ => True), (fun _ _ => True), (fun _ _ => True), (fun _ _ => True), (fun _ _ => True), (fun _ _ => True)] (fun v' w' => Grew wr W.heap.size u8 (Y ++ [P.live]) v' w')
              (by kernel_rfl) (by kernel_rfl) (by kernel_rfl) (by decide) ⟨fun _ _ _ h _ => h, fun _ _ _ h _ => h, fun _ _ _ h _ => h, fun _ _ _ h _ => h, fun _ _ _ h _ => h, fun _ _ _ h _ => h, fun _ _ _ h _ => h, fun _ _ _ h _ => h, fun z_ w_ w2_ h hb => let ⟨g, h1, h2⟩ := h; ⟨g, h1, h2.next hb⟩, fun _ _ _ h _ => h, fun _ _ _ h _ => h, fun _ _ _ h _ => h, fun _ _ _ h _ => h, fun _ _ _ h _ => h, fun _ _ _ h _ => h, fun _ _ _ h _ => h, trivial⟩ (Grew.dst) ?steps (by decide) ?fin
            case steps =>
              refine ⟨?_, ?_, ?_, ?_, ?_, ?_, ?_, ?_, ?_, ?_, ?_, ?_, ?_, ?_, ?_, ?_, trivial⟩
              · intro vs g w2 hI hF hR K hK
                simp only [Facts, fill, Act.put, z1, z2, z3, z4, z5, Nat.reduceAdd] at hF hR hK ⊢
                go_simp
                exact hK _ _ _ (hI.step (by decide) (Below.refl _ _)) ⟨rfl, fun _ => Below.refl _ _⟩ ⟨updG_same _ _, rfl, fun _ => trivial, fun e => absurd e (by decide)⟩
              · intro vs g w2 hI hF hR K hK
                simp only [Facts, fill, Act.put, z1, z2, z3, z4, z5, Nat.reduceAdd] at hF hR hK ⊢
                go_simp
                exact hK _ _ _ (hI.step (by decide) (Below.refl _ _)) ⟨rfl, fun _ => Below.refl _ _⟩ ⟨updG_same _ _, rfl, fun _ => trivial, fun e => absurd e (by decide)⟩
              · intro vs g w2 hI hF hR K hK
                simp only [Facts, fill, Act.put, z1, z2, z3, z4, z5, Nat.reduceAdd] at hF hR hK ⊢
                obtain ⟨q1, -⟩ := hR
                have r1 : .pointer (some ⟨(b + 1), 2, none⟩) = vs 1 := Eq.symm q1.val
                generalize vs 1 = x1 at *
                subst r1
                have k0 := (hI.moved.cell (lt_of_cell k2) hntB).trans k2
                go_simp
                exact hK _ _ _ (hI.step (by decide) (Below.refl _ _)) ⟨rfl, fun _ => Below.refl _ _⟩ ⟨updG_same _ _, rfl, fun _ => trivial, fun e => absurd e (by decide)⟩
              · intro vs g w2 hI hF hR K hK
                simp only [Facts, fill, Act.put, z1, z2, z3, z4, z5, Nat.reduceAdd] at hF hR hK ⊢
                go_simp
                exact hK _ _ _ (hI.step (by decide) (Below.refl _ _)) ⟨rfl, fun _ => Below.refl _ _⟩ ⟨updG_same _ _, rfl, fun _ => trivial, fun e => absurd e (by decide)⟩
              · intro vs g w2 hI hF hR K hK
                simp only [Facts, fill, Act.put, z1, z2, z3, z4, z5, Nat.reduceAdd] at hF hR hK ⊢
                obtain ⟨q2, q3, -⟩ := hR
                have r2 : .slice (some ⟨pb, po, none⟩) m d = vs 2 := Eq.symm q2.val
                have r3 : .int .i64 j = vs 3 := Eq.symm q3.val
                generalize vs 2 = x2, vs 3 = x3 at *
                subst r2 r3
                go_simp
                exact hK _ _ _ (hI.step (by decide) (Below.refl _ _)) ⟨rfl, fun _ => Below.refl _ _⟩ ⟨updG_same _ _, rfl, fun _ => trivial, fun e => absurd e (by decide)⟩
              · intro vs g w2 hI hF hR K hK
                simp only [Facts, fill, Act.put, z1, z2, z3, z4, z5, Nat.reduceAdd] at hF hR hK ⊢
                obtain ⟨q4, -⟩ := hR
                have r4 : .pointer (some ⟨pb, po + j * 2, none⟩) = vs 4 := Eq.symm q4.val
                generalize vs 4 = x4 at *
                subst r4
                go_simp
                exact hK _ _ _ (hI.step (by decide) (Below.refl _ _)) ⟨rfl, fun _ => Below.refl _ _⟩ ⟨updG_same _ _, rfl, fun _ => trivial, fun e => absurd e (by decide)⟩
              · intro vs g w2 hI hF hR K hK
                simp only [Facts, fill, Act.put, z1, z2, z3, z4, z5, Nat.reduceAdd] at hF hR hK ⊢
                obtain ⟨q5, -⟩ := hR
                have r5 : .pointer (some ⟨pb, po + j * 2, none⟩) = vs 5 := Eq.symm q5.val
                generalize vs 5 = x5 at *
                subst r5
                have k0 := (hI.moved.cell (lt_of_cell q0) hntq).trans q0
                go_simp
                exact hK _ _ _ (hI.step (by decide) (Below.refl _ _)) ⟨rfl, fun _ => Below.refl _ _⟩ ⟨updG_same _ _, rfl, fun _ => trivial, fun e => absurd e (by decide)⟩
              · intro vs g w2 hI hF hR K hK
                simp only [Facts, fill, Act.put, z1, z2, z3, z4, z5, Nat.reduceAdd] at hF hR hK ⊢
                obtain ⟨q6, -⟩ := hR
                have r6 : .int .u64 P.live = vs 6 := Eq.symm q6.val
                generalize vs 6 = x6 at *
                subst r6
                go_simp
                exact hK _ _ _ (hI.step (by decide) (Below.refl _ _)) ⟨rfl, fun _ => Below.refl _ _⟩ ⟨updG_same _ _, rfl, fun _ => trivial, fun e => absurd e (by decide)⟩
              · intro vs g w2 hI hF hR K hK
                simp only [Facts, fill, Act.put, z1, z2, z3, z4, z5, Nat.reduceAdd] at hF hR hK ⊢
                obtain ⟨q7, -⟩ := hR
                have r7 : .int .u8 P.live = vs 7 := Eq.symm q7.val
                generalize vs 7 = x7 at *
                subst r7
                have hb : Below w2.heap.size w2 (w2.alloc (.cells #[.int .u8 P.live] 5)) := (Below.refl _ _).alloc (Nat.le_refl _) _
                go_simp
                exact hK _ _ _ (hI.step (by decide) hb) ⟨rfl, fun _ => hb⟩ ⟨updG_same _ _, trivial, fun _ => ⟨_, rfl, (row_lit (C := byC) byC_len [P.live]).imp fun _ _ => trivial⟩, fun e => absurd e (by decide)⟩
              · intro vs g w2 hI hF hR K hK
                simp only [Facts, fill, Act.put, z1, z2, z3, z4, z5, Nat.reduceAdd] at hF hR hK ⊢
                obtain ⟨q0, q8, -⟩ := hR
                have r0 : u8 = vs 0 := Eq.symm q0.val
                generalize vs 0 = x0, vs 8 = x8 at *
                subst r0
                have hB := hI.below hF
                obtain ⟨gl, rfl, hrl⟩ := q8.raw hF
                rw [if_pos (by rfl)]
                refine op_app_row elemB _ _ rfl W.heap.size u8 Y.length (Y.map (Value.int .u8)) rfl (hij.row.nextB hB) (some ⟨gl, 0, none⟩) 1 1 [P.live] _ rfl rfl hrl (fun h => by cases h) (by omega) (Nat.le_trans hbs hB.size) ?_
                intro v' w3 hrow hgrow hloc
                have hg : Grew wr W.heap.size u8 (Y ++ [P.live]) v' w3 := Grew.ahead hB ⟨by unfold OwnK; rw [List.length_append, List.map_append]; exact hrow, grown_moved hgrow, fun b hb => by rcases hloc with h | h; exact .inl (h ▸ hb); rw [h] at hb; injection hb with hb; exact .inr (by omega)⟩
                exact hK _ _ _ (hI.end_ (fun i hi => by simp at hi; subst hi; exact q8.up) hg.moved) ⟨rfl, fun e => absurd rfl e⟩ ⟨updG_same _ _, trivial, fun e => (by rw [updG_same] at e; cases e), fun _ => hg⟩
              · intro vs g w2 hI hF hR K hK
                simp only [Facts, fill, Act.put, z1, z2, z3, z4, z5, Nat.reduceAdd] at hF hR hK ⊢
                go_simp
                exact hK _ _ _ (hI.step (by decide) (Below.refl _ _)) ⟨rfl, fun _ => Below.refl _ _⟩ ⟨updG_same _ _, rfl, fun _ => trivial, fun e => absurd e (by decide)⟩
              · intro vs g w2 hI hF hR K hK
                simp only [Facts, fill, Act.put, z1, z2, z3, z4, z5, Nat.reduceAdd] at hF hR hK ⊢
                obtain ⟨q10, -⟩ := hR
                have r10 : .pointer (some ⟨(b + 1), 2, none⟩) = vs 10 := Eq.symm q10.val
                generalize vs 10 = x10 at *
                subst r10
                have k0 := (hI.moved.cell (lt_of_cell k2) hntB).trans k2
                go_simp
                exact hK _ _ _ (hI.step (by decide) (Below.refl _ _)) ⟨rfl, fun _ => Below.refl _ _⟩ ⟨updG_same _ _, rfl, fun _ => trivial, fun e => absurd e (by decide)⟩
              · intro vs g w2 hI hF hR K hK
                simp only [Facts, fill, Act.put, z1, z2, z3, z4, z5, Nat.reduceAdd] at hF hR hK ⊢
                go_simp
                exact hK _ _ _ (hI.step (by decide) (Below.refl _ _)) ⟨rfl, fun _ => Below.refl _ _⟩ ⟨updG_same _ _, rfl, fun _ => trivial, fun e => absurd e (by decide)⟩
              · intro vs g w2 hI hF hR K hK
                simp only [Facts, fill, Act.put, z1, z2, z3, z4, z5, Nat.reduceAdd] at hF hR hK ⊢
                obtain ⟨q11, q12, -⟩ := hR
                have r11 : .slice (some ⟨pb, po, none⟩) m d = vs 11 := Eq.symm q11.val
                have r12 : .int .i64 j = vs 12 := Eq.symm q12.val
                generalize vs 11 = x11, vs 12 = x12 at *
                subst r11 r12
                go_simp
                exact hK _ _ _ (hI.step (by decide) (Below.refl _ _)) ⟨rfl, fun _ => Below.refl _ _⟩ ⟨updG_same _ _, rfl, fun _ => trivial, fun e => absurd e (by decide)⟩
              · intro vs g w2 hI hF hR K hK
                simp only [Facts, fill, Act.put, z1, z2, z3, z4, z5, Nat.reduceAdd] at hF hR hK ⊢
                obtain ⟨q13, -⟩ := hR
                have r13 : .pointer (some ⟨pb, po + j * 2, none⟩) = vs 13 := Eq.symm q13.val
                generalize vs 13 = x13 at *
                subst r13
                go_simp
                exact hK _ _ _ (hI.step (by decide) (Below.refl _ _)) ⟨rfl, fun _ => Below.refl _ _⟩ ⟨updG_same _ _, rfl, fun _ => trivial, fun e => absurd e (by decide)⟩
              · intro vs g w2 hI hF hR K hK
                simp only [Facts, fill, Act.put, z1, z2, z3, z4, z5, Nat.reduceAdd] at hF hR hK ⊢
                obtain ⟨q14, -⟩ := hR
                have r14 : .pointer (some ⟨pb, po + j * 2 + 1, none⟩) = vs 14 := Eq.symm q14.val
                generalize vs 14 = x14 at *
                subst r14
                have k0 := (hI.moved.cell (lt_of_cell q1) hntq).trans q1
                go_simp
                exact hK _ _ _ (hI.step (by decide) (Below.refl _ _)) ⟨rfl, fun _ => Below.refl _ _⟩ ⟨updG_same _ _, rfl, fun _ => trivial, fun e => absurd e (by decide)⟩
            case fin =>
              intro vs w2 hm hpo hR
              have r15 : .int .u64 P.id = vs 15 := Eq.symm (hR 15 (by decide))
              simp only [fill, Act.put, z1, z2, z3, z4, z5] at ⊢
              clear hR
              generalize vs 15 = x15 at *
              generalize vs 9 = x9 at *
              subst r15
              have hlen2 : (Y ++ [P.live]).length ≤ 900000 := by rw [List.length_append]; simp; omega
              refine wpOps_step rfl rfl ?_
              go_simp
              refine (ref18Word_any W.heap.size _ (Y ++ [P.live]) P.id w2 hpo.row hlen2 (Nat.le_trans hbs hpo.moved.size) HPS.out.2).mono ?_
              rintro e w3 ⟨v3, rfl, hg3⟩
              refine wpOps_step rfl rfl ?_
              go_simp
              refine NoPanic.normal ?_
              have hi6 := hij.grow (hpo.trans hg3)
              go_wp2
              go_roundw
              case rel => exact ⟨j + 1, by go_num, hjm, by rw [HFL.out, ← List.append_assoc, ← HY.out, show rcB P = [P.live] ++ digs 8 P.id from rfl, ← List.append_assoc]; exact hi6⟩
              case measure => have := HM.out; simp [intOf]; omega
          · have hjr : ¬ ((j : Int) < m) := by have := HM.out; omega
            have HFA := Lib.hid (show l.take j = l from List.take_of_length_le (by omega))
            rw [HFA.out] at hij
            have HXB := Lib.hid (show bs = fs ++ l.flatMap rcB by rw [← HBB.out, if_pos HXE.out, HFS.out, HF2.out])
            rw [← HXB.out] at hij
            go_wp2
            exact bodyPost_ret (v := .tuple #[u8, .int .i64 0]) (by simp [results, Tryd.results20, go_sem]) rfl (by rw [HXE.out]; exact EncI.gives h0 hij rfl)
      · have HFS := Lib.hid (show rspB ⟨op, vx, hrs.map rgK, pts⟩ ⟨v, k, l⟩ = [0, v] ++ l.flatMap rcB by unfold rspB; rw [if_neg h5]; simp)
        have d5 : (op == 5) = false := by rw [beq_eq_false_iff_ne]; exact h5
        clear h5
        go_upto_region 7 with (fail)
        rw [← HW3.out, ← HBL.out]
        have j0 := (hb3.cell (lt_of_cell j0)).trans j0
        have hi4 := hi3
        clear j4 j5 j6 hb3 hi3
        go_wp2
        obtain ⟨fs, hfs⟩ : ∃ fs : List Int, fs = [0, v] := ⟨_, rfl⟩
        rw [← hfs] at hi4
        have hfl : fs.length ≤ 4 := by rw [hfs]; simp
        have HF2 := Lib.hid hfs
        clear hfs
        go_loopw [8, 9] (fun b j wr => RspRel W fs l b j wr) (fun _ j _ => m - (intOf j).toNat)
        case atStart => exact ⟨0, rfl, Nat.zero_le _, by rw [List.take_zero, List.flatMap_nil, List.append_nil]; exact hi4⟩
        case round =>
          clear hi4
          obtain ⟨j, rfl, hj, hij⟩ := hrel
          have k2 := keepW hij.below a2
          by_cases hjm : j < l.length
          · obtain ⟨pb, po, rfl, hTq, hcq⟩ := HRow.out.at_ hjm
            have p0 : W.cell? ⟨pb, po + j * 2, none⟩ = some (.int .u64 (l[j]).live) := hcq 0 _ rfl
            have p1 : W.cell? ⟨pb, po + j * 2 + 1, none⟩ = some (.int .u64 (l[j]).id) := hcq 1 _ rfl
            have HFL := Lib.hid (flat_snoc rcB hjm)
            have HPS := Lib.hid (hU _ (List.getElem_mem hjm))
            have HL1 := Lib.hid (HLV.out _ (List.getElem_mem hjm))
            have hfl2 := flat_take_le rcB_len l j
            have q0 := keepW hij.below p0
            have q1 := keepW hij.below p1
            clear hcq p0 p1
            generalize l[j] = P at q0 q1 HFL HPS HL1
            have hx1 : 0 ≤ P.live ∧ P.live ≤ 1 := by have := HL1.out; omega
            have e6 : IntKind.u8.wrap P.live = P.live := wrap_u8' (by omega) (by omega)
            have hjr : (j : Int) < m := by have := HM.out; omega
            have hlen : (fs ++ (l.take j).flatMap rcB).length ≤ 100000 := by rw [List.length_append]; omega
            obtain ⟨Y, hY⟩ : ∃ Y, Y = fs ++ (l.take j).flatMap rcB := ⟨_, rfl⟩
            rw [← hY] at hij hlen
            have HY := Lib.hid hY
            have hlow : ∀ g, u8.ownBlock = some g → W.heap.size ≤ g := fun g hg => (World.ownsRow.lt hij.row g hg).1
            have hntB : ¬ u8.ownBlock = some (b + 1) := fun e => by have := hlow _ e; omega
            have hntq : ¬ u8.ownBlock = some pb := fun e => by have := hlow pb e; omega
            have hbs := hij.below.size
            clear hfl2 hY hlow
            go_wp2
            refine dirP_plain (by kernel_rfl) (fun b => u8.ownBlock = some b) 9 [8] 16 [[], [], [(48, 1)], [], [(49, 2), (50, 3)], [(51, 4)], [(52, 5)], [(53, 6)], [(54, 7)], [(47, 0), (55, 8)], [], [(57, 10)], [], [(58, 11), (59, 12)], [(60, 13)], [(61, 14)], [(56, 9), (62, 15)], [(63, 16)]] [(47, 0), (48, 1), (49, 2), (50, 3), (51, 4), (52, 5), (53, 6), (54, 7), (55, 8), (56, 9), (57, 10), (58, 11), (59, 12), (60, 13), (61, 14), (62, 15)] [
                (fun z_ => z_ = u8),
                (fun z_ => z_ = .pointer (some ⟨(b + 1), 2, none⟩)),
                (fun z_ => z_ = .slice (some ⟨pb, po, none⟩) m d),
                (fun z_ => z_ = .int .i64 j),
                (fun z_ => z_ = .pointer (some ⟨pb, po + j * 2, none⟩)),
                (fun z_ => z_ = .pointer (some ⟨pb, po + j * 2, none⟩)),
                (fun z_ => z_ = .int .u64 P.live),
                (fun z_ => z_ = .int .u8 P.live),
                (fun _ => True),
                (fun _ => True),
                (fun z_ => z_ = .pointer (some ⟨(b + 1), 2, none⟩)),
                (fun z_ => z_ = .slice (some ⟨pb, po, none⟩) m d),
                (fun z_ => z_ = .int .i64 j),
                (fun z_ => z_ = .pointer (some ⟨pb, po + j * 2, none⟩)),
                (fun z_ => z_ = .pointer (some ⟨pb, po + j * 2 + 1, none⟩)),
                (fun z_ => z_ = .int .u64 P.id)
              ] [(fun _ _ => True), (fun _ _ => True), (fun _ _ => True), (fun _ _ => True), (fun _ _ => True), (fun _ _ => True), (fun _ _ => True), (fun _ _ => True), (fun z_ w_ => ∃ g, z_ = .slice (some ⟨g, 0, none⟩) 1 1 ∧ RowR w_ (fun _ => True) 1 byC (some ⟨g, 0, none⟩) [P.live]), (fun _ _ => True), (fun _ _ => True), (fun _ _ => True), (fun _ _ => True), (fun _ _ => True), (fun _ _ => True), (fun _ _ => True)] (fun v' w' => Grew wr W.heap.size u8 (Y ++ [P.live]) v' w')
              (by kernel_rfl) (by kernel_rfl) (by kernel_rfl) (by decide) ⟨fun _ _ _ h _ => h, fun _ _ _ h _ => h, fun _ _ _ h _ => h, fun _ _ _ h _ => h, fun _ _ _ h _ => h, fun _ _ _ h _ => h, fun _ _ _ h _ => h, fun _ _ _ h _ => h, fun z_ w_ w2_ h hb => let ⟨g, h1, h2⟩ := h; ⟨g, h1, h2.next hb⟩, fun _ _ _ h _ => h, fun _ _ _ h _ => h, fun _ _ _ h _ => h, fun _ _ _ h _ => h, fun _ _ _ h _ => h, fun _ _ _ h _ => h, fun _ _ _ h _ => h, trivial⟩ (Grew.dst) ?steps (by decide) ?fin
            case steps =>
              refine ⟨?_, ?_, ?_, ?_, ?_, ?_, ?_, ?_, ?_, ?_, ?_, ?_, ?_, ?_, ?_, ?_, trivial⟩
              · intro vs g w2 hI hF hR K hK
                simp only [Facts, fill, Act.put, z1, z2, z3, z4, z5, Nat.reduceAdd] at hF hR hK ⊢
                go_simp
                exact hK _ _ _ (hI.step (by decide) (Below.refl _ _)) ⟨rfl, fun _ => Below.refl _ _⟩ ⟨updG_same _ _, rfl, fun _ => trivial, fun e => absurd e (by decide)⟩
              · intro vs g w2 hI hF hR K hK
                simp only [Facts, fill, Act.put, z1, z2, z3, z4, z5, Nat.reduceAdd] at hF hR hK ⊢
                go_simp
                exact hK _ _ _ (hI.step (by decide) (Below.refl _ _)) ⟨rfl, fun _ => Below.refl _ _⟩ ⟨updG_same _ _, rfl, fun _ => trivial, fun e => absurd e (by decide)⟩
              · intro vs g w2 hI hF hR K hK
                simp only [Facts, fill, Act.put, z1, z2, z3, z4, z5, Nat.reduceAdd] at hF hR hK ⊢
                obtain ⟨q1, -⟩ := hR
                have r1 : .pointer (some ⟨(b + 1), 2, none⟩) = vs 1 := Eq.symm q1.val
                generalize vs 1 = x1 at *
                subst r1
                have k0 := (hI.moved.cell (lt_of_cell k2) hntB).trans k2
                go_simp
                exact hK _ _ _ (hI.step (by decide) (Below.refl _ _)) ⟨rfl, fun _ => Below.refl _ _⟩ ⟨updG_same _ _, rfl, fun _ => trivial, fun e => absurd e (by decide)⟩
              · intro vs g w2 hI hF hR K hK
                simp only [Facts, fill, Act.put, z1, z2, z3, z4, z5, Nat.reduceAdd] at hF hR hK ⊢
                go_simp
                exact hK _ _ _ (hI.step (by decide) (Below.refl _ _)) ⟨rfl, fun _ => Below.refl _ _⟩ ⟨updG_same _ _, rfl, fun _ => trivial, fun e => absurd e (by decide)⟩
              · intro vs g w2 hI hF hR K hK
                simp only [Facts, fill, Act.put, z1, z2, z3, z4, z5, Nat.reduceAdd] at hF hR hK ⊢
                obtain ⟨q2, q3, -⟩ := hR
                have r2 : .slice (some ⟨pb, po, none⟩) m d = vs 2 := Eq.symm q2.val
                have r3 : .int .i64 j = vs 3 := Eq.symm q3.val
                generalize vs 2 = x2, vs 3 = x3 at *
                subst r2 r3
                go_simp
                exact hK _ _ _ (hI.step (by decide) (Below.refl _ _)) ⟨rfl, fun _ => Below.refl _ _⟩ ⟨updG_same _ _, rfl, fun _ => trivial, fun e => absurd e (by decide)⟩
              · intro vs g w2 hI hF hR K hK
                simp only [Facts, fill, Act.put, z1, z2, z3, z4, z5, Nat.reduceAdd] at hF hR hK ⊢
                obtain ⟨q4, -⟩ := hR
                have r4 : .pointer (some ⟨pb, po + j * 2, none⟩) = vs 4 := Eq.symm q4.val
                generalize vs 4 = x4 at *
                subst r4
                go_simp
                exact hK _ _ _ (hI.step (by decide) (Below.refl _ _)) ⟨rfl, fun _ => Below.refl _ _⟩ ⟨updG_same _ _, rfl, fun _ => trivial, fun e => absurd e (by decide)⟩
              · intro vs g w2 hI hF hR K hK
                simp only [Facts, fill, Act.put, z1, z2, z3, z4, z5, Nat.reduceAdd] at hF hR hK ⊢
                obtain ⟨q5, -⟩ := hR
                have r5 : .pointer (some ⟨pb, po + j * 2, none⟩) = vs 5 := Eq.symm q5.val
                generalize vs 5 = x5 at *
                subst r5
                have k0 := (hI.moved.cell (lt_of_cell q0) hntq).trans q0
                go_simp
                exact hK _ _ _ (hI.step (by decide) (Below.refl _ _)) ⟨rfl, fun _ => Below.refl _ _⟩ ⟨updG_same _ _, rfl, fun _ => trivial, fun e => absurd e (by decide)⟩
              · intro vs g w2 hI hF hR K hK
                simp only [Facts, fill, Act.put, z1, z2, z3, z4, z5, Nat.reduceAdd] at hF hR hK ⊢
                obtain ⟨q6, -⟩ := hR
                have r6 : .int .u64 P.live = vs 6 := Eq.symm q6.val
                generalize vs 6 = x6 at *
                subst r6
                go_simp
                exact hK _ _ _ (hI.step (by decide) (Below.refl _ _)) ⟨rfl, fun _ => Below.refl _ _⟩ ⟨updG_same _ _, rfl, fun _ => trivial, fun e => absurd e (by decide)⟩
              · intro vs g w2 hI hF hR K hK
                simp only [Facts, fill, Act.put, z1, z2, z3, z4, z5, Nat.reduceAdd] at hF hR hK ⊢
                obtain ⟨q7, -⟩ := hR
                have r7 : .int .u8 P.live = vs 7 := Eq.symm q7.val
                generalize vs 7 = x7 at *
                subst r7
                have hb : Below w2.heap.size w2 (w2.alloc (.cells #[.int .u8 P.live] 5)) := (Below.refl _ _).alloc (Nat.le_refl _) _
                go_simp
                exact hK _ _ _ (hI.step (by decide) hb) ⟨rfl, fun _ => hb⟩ ⟨updG_same _ _, trivial, fun _ => ⟨_, rfl, (row_lit (C := byC) byC_len [P.live]).imp fun _ _ => trivial⟩, fun e => absurd e (by decide)⟩
              · intro vs g w2 hI hF hR K hK
                simp only [Facts, fill, Act.put, z1, z2, z3, z4, z5, Nat.reduceAdd] at hF hR hK ⊢
                obtain ⟨q0, q8, -⟩ := hR
                have r0 : u8 = vs 0 := Eq.symm q0.val
                generalize vs 0 = x0, vs 8 = x8 at *
                subst r0
                have hB := hI.below hF
                obtain ⟨gl, rfl, hrl⟩ := q8.raw hF
                rw [if_pos (by rfl)]
                refine op_app_row elemB _ _ rfl W.heap.size u8 Y.length (Y.map (Value.int .u8)) rfl (hij.row.nextB hB) (some ⟨gl, 0, none⟩) 1 1 [P.live] _ rfl rfl hrl (fun h => by cases h) (by omega) (Nat.le_trans hbs hB.size) ?_
                intro v' w3 hrow hgrow hloc
                have hg : Grew wr W.heap.size u8 (Y ++ [P.live]) v' w3 := Grew.ahead hB ⟨by unfold OwnK; rw [List.length_append, List.map_append]; exact hrow, grown_moved hgrow, fun b hb => by rcases hloc with h | h; exact .inl (h ▸ hb); rw [h] at hb; injection hb with hb; exact .inr (by omega)⟩
                exact hK _ _ _ (hI.end_ (fun i hi => by simp at hi; subst hi; exact q8.up) hg.moved) ⟨rfl, fun e => absurd rfl e⟩ ⟨updG_same _ _, trivial, fun e => (by rw [updG_same] at e; cases e), fun _ => hg⟩
              · intro vs g w2 hI hF hR K hK
                simp only [Facts, fill, Act.put, z1, z2, z3, z4, z5, Nat.reduceAdd] at hF hR hK ⊢
                go_simp
                exact hK _ _ _ (hI.step (by decide) (Below.refl _ _)) ⟨rfl, fun _ => Below.refl _ _⟩ ⟨updG_same _ _, rfl, fun _ => trivial, fun e => absurd e (by decide)⟩
              · intro vs g w2 hI hF hR K hK
                simp only [Facts, fill, Act.put, z1, z2, z3, z4, z5, Nat.reduceAdd] at hF hR hK ⊢
                obtain ⟨q10, -⟩ := hR
                have r10 : .pointer (some ⟨(b + 1), 2, none⟩) = vs 10 := Eq.symm q10.val
                generalize vs 10 = x10 at *
                subst r10
                have k0 := (hI.moved.cell (lt_of_cell k2) hntB).trans k2
                go_simp
                exact hK _ _ _ (hI.step (by decide) (Below.refl _ _)) ⟨rfl, fun _ => Below.refl _ _⟩ ⟨updG_same _ _, rfl, fun _ => trivial, fun e => absurd e (by decide)⟩
              · intro vs g w2 hI hF hR K hK
                simp only [Facts, fill, Act.put, z1, z2, z3, z4, z5, Nat.reduceAdd] at hF hR hK ⊢
                go_simp
                exact hK _ _ _ (hI.step (by decide) (Below.refl _ _)) ⟨rfl, fun _ => Below.refl _ _⟩ ⟨updG_same _ _, rfl, fun _ => trivial, fun e => absurd e (by decide)⟩
              · intro vs g w2 hI hF hR K hK
                simp only [Facts, fill, Act.put, z1, z2, z3, z4, z5, Nat.reduceAdd] at hF hR hK ⊢
                obtain ⟨q11, q12, -⟩ := hR
                have r11 : .slice (some ⟨pb, po, none⟩) m d = vs 11 := Eq.symm q11.val
                have r12 : .int .i64 j = vs 12 := Eq.symm q12.val
                generalize vs 11 = x11, vs 12 = x12 at *
                subst r11 r12
                go_simp
                exact hK _ _ _ (hI.step (by decide) (Below.refl _ _)) ⟨rfl, fun _ => Below.refl _ _⟩ ⟨updG_same _ _, rfl, fun _ => trivial, fun e => absurd e (by decide)⟩
              · intro vs g w2 hI hF hR K hK
                simp only [Facts, fill, Act.put, z1, z2, z3, z4, z5, Nat.reduceAdd] at hF hR hK ⊢
                obtain ⟨q13, -⟩ := hR
                have r13 : .pointer (some ⟨pb, po + j * 2, none⟩) = vs 13 := Eq.symm q13.val
                generalize vs 13 = x13 at *
                subst r13
                go_simp
                exact hK _ _ _ (hI.step (by decide) (Below.refl _ _)) ⟨rfl, fun _ => Below.refl _ _⟩ ⟨updG_same _ _, rfl, fun _ => trivial, fun e => absurd e (by decide)⟩
              · intro vs g w2 hI hF hR K hK
                simp only [Facts, fill, Act.put, z1, z2, z3, z4, z5, Nat.reduceAdd] at hF hR hK ⊢
                obtain ⟨q14, -⟩ := hR
                have r14 : .pointer (some ⟨pb, po + j * 2 + 1, none⟩) = vs 14 := Eq.symm q14.val
                generalize vs 14 = x14 at *
                subst r14
                have k0 := (hI.moved.cell (lt_of_cell q1) hntq).trans q1
                go_simp
                exact hK _ _ _ (hI.step (by decide) (Below.refl _ _)) ⟨rfl, fun _ => Below.refl _ _⟩ ⟨updG_same _ _, rfl, fun _ => trivial, fun e => absurd e (by decide)⟩
            case fin =>
              intro vs w2 hm hpo hR
              have r15 : .int .u64 P.id = vs 15 := Eq.symm (hR 15 (by decide))
              simp only [fill, Act.put, z1, z2, z3, z4, z5] at ⊢
              clear hR
              generalize vs 15 = x15 at *
              generalize vs 9 = x9 at *
              subst r15
              have hlen2 : (Y ++ [P.live]).length ≤ 900000 := by rw [List.length_append]; simp; omega
              refine wpOps_step rfl rfl ?_
              go_simp
              refine (ref18Word_any W.heap.size _ (Y ++ [P.live]) P.id w2 hpo.row hlen2 (Nat.le_trans hbs hpo.moved.size) HPS.out.2).mono ?_
              rintro e w3 ⟨v3, rfl, hg3⟩
              refine wpOps_step rfl rfl ?_
              go_simp
              refine NoPanic.normal ?_
              have hi6 := hij.grow (hpo.trans hg3)
              go_wp2
              go_roundw
              case rel => exact ⟨j + 1, by go_num, hjm, by rw [HFL.out, ← List.append_assoc, ← HY.out, show rcB P = [P.live] ++ digs 8 P.id from rfl, ← List.append_assoc]; exact hi6⟩
              case measure => have := HM.out; simp [intOf]; omega
          · have hjr : ¬ ((j : Int) < m) := by have := HM.out; omega
            have HFA := Lib.hid (show l.take j = l from List.take_of_length_le (by omega))
            rw [HFA.out] at hij
            have HXB := Lib.hid (show bs = fs ++ l.flatMap rcB by rw [← HBB.out, if_pos HXE.out, HFS.out, HF2.out])
            rw [← HXB.out] at hij
            go_wp2
            exact bodyPost_ret (v := .tuple #[u8, .int .i64 0]) (by simp [results, Tryd.results20, go_sem]) rfl (by rw [HXE.out]; exact EncI.gives h0 hij rfl)
  · have HX := Lib.hid (show er = fe ∧ bs = [] by
      have h1 : er = fe := by rw [← HE.out]; unfold rspE; rw [HFE.out, if_pos hf]
      exact ⟨h1, by rw [← HBB.out, if_neg (by omega)]⟩)
    have d1 : (fe != 0) = true := by rw [bne_iff_ne]; exact hf
    have HF := Lib.hid hf
    clear hf
    go_wp2
    exact bodyPost_ret (v := .tuple #[.slice none 0 0, .int .i64 fe]) (by simp [results, Tryd.results20, go_sem]) rfl (by rw [HX.out.1]; exact givesB_bad HF.out HX.out.2 (h0.trans (hb1.mono h0.size)))
end Go.Proofs.YtcfdpimpleniaaaDoor
