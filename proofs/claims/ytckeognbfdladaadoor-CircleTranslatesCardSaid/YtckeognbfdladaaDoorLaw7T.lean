/-
  Law CircleTranslates. (Written by law5.py.)
-/
import Derived.Test.YtckeognbfdladaaDoorLaw7a
import Derived.Deep.RegionLaw
import Derived.BigQuiet
import Derived.Deep.DeepCutAuto
import Derived.Deep.CutRange
namespace Go.Proofs.YtckeognbfdladaaDoor
open Go.RowKit
set_option maxRecDepth 100000
set_option linter.unusedVariables false
set_option linter.unusedSimpArgs false

def trC (k j : Nat) (x d : Int) : Int := if j < k then x + d else x
structure TrAt (w : World) (xa ya xb yb xc yc xd yd xe ye : Int) (q0 q1 q2 q3 q4 q5 q6 q7 : Int) (wr : World) : Prop where
  below : Below w.heap.size w wr
  box : HasBox wr (w.heap.size + 1 + 1) 8
  ps : wr.cell? ⟨w.heap.size, 0, none⟩ = some (.int .i64 (xa)) ∧ wr.cell? ⟨w.heap.size, 1, none⟩ = some (.int .i64 (ya)) ∧ wr.cell? ⟨w.heap.size, 2, none⟩ = some (.int .i64 (xb)) ∧ wr.cell? ⟨w.heap.size, 3, none⟩ = some (.int .i64 (yb)) ∧ wr.cell? ⟨w.heap.size, 4, none⟩ = some (.int .i64 (xc)) ∧ wr.cell? ⟨w.heap.size, 5, none⟩ = some (.int .i64 (yc)) ∧ wr.cell? ⟨w.heap.size, 6, none⟩ = some (.int .i64 (xd)) ∧ wr.cell? ⟨w.heap.size, 7, none⟩ = some (.int .i64 (yd))
  bs : wr.cell? ⟨w.heap.size + 1, 0, none⟩ = some (.int .i64 (xe)) ∧ wr.cell? ⟨w.heap.size + 1, 1, none⟩ = some (.int .i64 (ye))
  qs : wr.cell? ⟨w.heap.size + 1 + 1, 0, none⟩ = some (.int .i64 (q0)) ∧ wr.cell? ⟨w.heap.size + 1 + 1, 1, none⟩ = some (.int .i64 (q1)) ∧ wr.cell? ⟨w.heap.size + 1 + 1, 2, none⟩ = some (.int .i64 (q2)) ∧ wr.cell? ⟨w.heap.size + 1 + 1, 3, none⟩ = some (.int .i64 (q3)) ∧ wr.cell? ⟨w.heap.size + 1 + 1, 4, none⟩ = some (.int .i64 (q4)) ∧ wr.cell? ⟨w.heap.size + 1 + 1, 5, none⟩ = some (.int .i64 (q5)) ∧ wr.cell? ⟨w.heap.size + 1 + 1, 6, none⟩ = some (.int .i64 (q6)) ∧ wr.cell? ⟨w.heap.size + 1 + 1, 7, none⟩ = some (.int .i64 (q7))
def TrRel (w : World) (xa ya xb yb xc yc xd yd xe ye : Int) (i : Value) (wr : World) : Prop :=
  ∃ k : Nat, i = .int .i64 k ∧ k ≤ 4 ∧ (∀ j, j < k → (j = 0 → S (xa + xe) ∧ S (ya + ye)) ∧ (j = 1 → S (xb + xe) ∧ S (yb + ye)) ∧ (j = 2 → S (xc + xe) ∧ S (yc + ye)) ∧ (j = 3 → S (xd + xe) ∧ S (yd + ye))) ∧ TrAt w xa ya xb yb xc yc xd yd xe ye (trC k 0 xa xe) (trC k 0 ya ye) (trC k 1 xb xe) (trC k 1 yb ye) (trC k 2 xc xe) (trC k 2 yc ye) (trC k 3 xd xe) (trC k 3 yd ye) wr
theorem TrAt.set0 {w wr : World} {xa ya xb yb xc yc xd yd xe ye q0 q1 q2 q3 q4 q5 q6 q7 z : Int} (h : TrAt w xa ya xb yb xc yc xd yd xe ye q0 q1 q2 q3 q4 q5 q6 q7 wr) : TrAt w xa ya xb yb xc yc xd yd xe ye z q1 q2 q3 q4 q5 q6 q7 (wr.setCell ⟨w.heap.size + 1 + 1, 0, none⟩ (.int .i64 z)).drew := by
  obtain ⟨hb, hx, ⟨p0, p1, p2, p3, p4, p5, p6, p7⟩, ⟨b0, b1⟩, c0, c1, c2, c3, c4, c5, c6, c7⟩ := h
  exact ⟨(hb.setCell (p := ⟨w.heap.size + 1 + 1, 0, none⟩) (by show w.heap.size ≤ w.heap.size + 1 + 1; omega) _).drew, hx.set_ _ _, ⟨set_low p0 (by omega), set_low p1 (by omega), set_low p2 (by omega), set_low p3 (by omega), set_low p4 (by omega), set_low p5 (by omega), set_low p6 (by omega), set_low p7 (by omega)⟩, ⟨set_low b0 (by omega), set_low b1 (by omega)⟩, set_cell c0, set_cell c1, set_cell c2, set_cell c3, set_cell c4, set_cell c5, set_cell c6, set_cell c7⟩
theorem TrAt.set1 {w wr : World} {xa ya xb yb xc yc xd yd xe ye q0 q1 q2 q3 q4 q5 q6 q7 z : Int} (h : TrAt w xa ya xb yb xc yc xd yd xe ye q0 q1 q2 q3 q4 q5 q6 q7 wr) : TrAt w xa ya xb yb xc yc xd yd xe ye q0 z q2 q3 q4 q5 q6 q7 (wr.setCell ⟨w.heap.size + 1 + 1, 1, none⟩ (.int .i64 z)).drew := by
  obtain ⟨hb, hx, ⟨p0, p1, p2, p3, p4, p5, p6, p7⟩, ⟨b0, b1⟩, c0, c1, c2, c3, c4, c5, c6, c7⟩ := h
  exact ⟨(hb.setCell (p := ⟨w.heap.size + 1 + 1, 1, none⟩) (by show w.heap.size ≤ w.heap.size + 1 + 1; omega) _).drew, hx.set_ _ _, ⟨set_low p0 (by omega), set_low p1 (by omega), set_low p2 (by omega), set_low p3 (by omega), set_low p4 (by omega), set_low p5 (by omega), set_low p6 (by omega), set_low p7 (by omega)⟩, ⟨set_low b0 (by omega), set_low b1 (by omega)⟩, set_cell c0, set_cell c1, set_cell c2, set_cell c3, set_cell c4, set_cell c5, set_cell c6, set_cell c7⟩
theorem TrAt.set2 {w wr : World} {xa ya xb yb xc yc xd yd xe ye q0 q1 q2 q3 q4 q5 q6 q7 z : Int} (h : TrAt w xa ya xb yb xc yc xd yd xe ye q0 q1 q2 q3 q4 q5 q6 q7 wr) : TrAt w xa ya xb yb xc yc xd yd xe ye q0 q1 z q3 q4 q5 q6 q7 (wr.setCell ⟨w.heap.size + 1 + 1, 2, none⟩ (.int .i64 z)).drew := by
  obtain ⟨hb, hx, ⟨p0, p1, p2, p3, p4, p5, p6, p7⟩, ⟨b0, b1⟩, c0, c1, c2, c3, c4, c5, c6, c7⟩ := h
  exact ⟨(hb.setCell (p := ⟨w.heap.size + 1 + 1, 2, none⟩) (by show w.heap.size ≤ w.heap.size + 1 + 1; omega) _).drew, hx.set_ _ _, ⟨set_low p0 (by omega), set_low p1 (by omega), set_low p2 (by omega), set_low p3 (by omega), set_low p4 (by omega), set_low p5 (by omega), set_low p6 (by omega), set_low p7 (by omega)⟩, ⟨set_low b0 (by omega), set_low b1 (by omega)⟩, set_cell c0, set_cell c1, set_cell c2, set_cell c3, set_cell c4, set_cell c5, set_cell c6, set_cell c7⟩
theorem TrAt.set3 {w wr : World} {xa ya xb yb xc yc xd yd xe ye q0 q1 q2 q3 q4 q5 q6 q7 z : Int} (h : TrAt w xa ya xb yb xc yc xd yd xe ye q0 q1 q2 q3 q4 q5 q6 q7 wr) : TrAt w xa ya xb yb xc yc xd yd xe ye q0 q1 q2 z q4 q5 q6 q7 (wr.setCell ⟨w.heap.size + 1 + 1, 3, none⟩ (.int .i64 z)).drew := by
  obtain ⟨hb, hx, ⟨p0, p1, p2, p3, p4, p5, p6, p7⟩, ⟨b0, b1⟩, c0, c1, c2, c3, c4, c5, c6, c7⟩ := h
  exact ⟨(hb.setCell (p := ⟨w.heap.size + 1 + 1, 3, none⟩) (by show w.heap.size ≤ w.heap.size + 1 + 1; omega) _).drew, hx.set_ _ _, ⟨set_low p0 (by omega), set_low p1 (by omega), set_low p2 (by omega), set_low p3 (by omega), set_low p4 (by omega), set_low p5 (by omega), set_low p6 (by omega), set_low p7 (by omega)⟩, ⟨set_low b0 (by omega), set_low b1 (by omega)⟩, set_cell c0, set_cell c1, set_cell c2, set_cell c3, set_cell c4, set_cell c5, set_cell c6, set_cell c7⟩
theorem TrAt.set4 {w wr : World} {xa ya xb yb xc yc xd yd xe ye q0 q1 q2 q3 q4 q5 q6 q7 z : Int} (h : TrAt w xa ya xb yb xc yc xd yd xe ye q0 q1 q2 q3 q4 q5 q6 q7 wr) : TrAt w xa ya xb yb xc yc xd yd xe ye q0 q1 q2 q3 z q5 q6 q7 (wr.setCell ⟨w.heap.size + 1 + 1, 4, none⟩ (.int .i64 z)).drew := by
  obtain ⟨hb, hx, ⟨p0, p1, p2, p3, p4, p5, p6, p7⟩, ⟨b0, b1⟩, c0, c1, c2, c3, c4, c5, c6, c7⟩ := h
  exact ⟨(hb.setCell (p := ⟨w.heap.size + 1 + 1, 4, none⟩) (by show w.heap.size ≤ w.heap.size + 1 + 1; omega) _).drew, hx.set_ _ _, ⟨set_low p0 (by omega), set_low p1 (by omega), set_low p2 (by omega), set_low p3 (by omega), set_low p4 (by omega), set_low p5 (by omega), set_low p6 (by omega), set_low p7 (by omega)⟩, ⟨set_low b0 (by omega), set_low b1 (by omega)⟩, set_cell c0, set_cell c1, set_cell c2, set_cell c3, set_cell c4, set_cell c5, set_cell c6, set_cell c7⟩
theorem TrAt.set5 {w wr : World} {xa ya xb yb xc yc xd yd xe ye q0 q1 q2 q3 q4 q5 q6 q7 z : Int} (h : TrAt w xa ya xb yb xc yc xd yd xe ye q0 q1 q2 q3 q4 q5 q6 q7 wr) : TrAt w xa ya xb yb xc yc xd yd xe ye q0 q1 q2 q3 q4 z q6 q7 (wr.setCell ⟨w.heap.size + 1 + 1, 5, none⟩ (.int .i64 z)).drew := by
  obtain ⟨hb, hx, ⟨p0, p1, p2, p3, p4, p5, p6, p7⟩, ⟨b0, b1⟩, c0, c1, c2, c3, c4, c5, c6, c7⟩ := h
  exact ⟨(hb.setCell (p := ⟨w.heap.size + 1 + 1, 5, none⟩) (by show w.heap.size ≤ w.heap.size + 1 + 1; omega) _).drew, hx.set_ _ _, ⟨set_low p0 (by omega), set_low p1 (by omega), set_low p2 (by omega), set_low p3 (by omega), set_low p4 (by omega), set_low p5 (by omega), set_low p6 (by omega), set_low p7 (by omega)⟩, ⟨set_low b0 (by omega), set_low b1 (by omega)⟩, set_cell c0, set_cell c1, set_cell c2, set_cell c3, set_cell c4, set_cell c5, set_cell c6, set_cell c7⟩
theorem TrAt.set6 {w wr : World} {xa ya xb yb xc yc xd yd xe ye q0 q1 q2 q3 q4 q5 q6 q7 z : Int} (h : TrAt w xa ya xb yb xc yc xd yd xe ye q0 q1 q2 q3 q4 q5 q6 q7 wr) : TrAt w xa ya xb yb xc yc xd yd xe ye q0 q1 q2 q3 q4 q5 z q7 (wr.setCell ⟨w.heap.size + 1 + 1, 6, none⟩ (.int .i64 z)).drew := by
  obtain ⟨hb, hx, ⟨p0, p1, p2, p3, p4, p5, p6, p7⟩, ⟨b0, b1⟩, c0, c1, c2, c3, c4, c5, c6, c7⟩ := h
  exact ⟨(hb.setCell (p := ⟨w.heap.size + 1 + 1, 6, none⟩) (by show w.heap.size ≤ w.heap.size + 1 + 1; omega) _).drew, hx.set_ _ _, ⟨set_low p0 (by omega), set_low p1 (by omega), set_low p2 (by omega), set_low p3 (by omega), set_low p4 (by omega), set_low p5 (by omega), set_low p6 (by omega), set_low p7 (by omega)⟩, ⟨set_low b0 (by omega), set_low b1 (by omega)⟩, set_cell c0, set_cell c1, set_cell c2, set_cell c3, set_cell c4, set_cell c5, set_cell c6, set_cell c7⟩
theorem TrAt.set7 {w wr : World} {xa ya xb yb xc yc xd yd xe ye q0 q1 q2 q3 q4 q5 q6 q7 z : Int} (h : TrAt w xa ya xb yb xc yc xd yd xe ye q0 q1 q2 q3 q4 q5 q6 q7 wr) : TrAt w xa ya xb yb xc yc xd yd xe ye q0 q1 q2 q3 q4 q5 q6 z (wr.setCell ⟨w.heap.size + 1 + 1, 7, none⟩ (.int .i64 z)).drew := by
  obtain ⟨hb, hx, ⟨p0, p1, p2, p3, p4, p5, p6, p7⟩, ⟨b0, b1⟩, c0, c1, c2, c3, c4, c5, c6, c7⟩ := h
  exact ⟨(hb.setCell (p := ⟨w.heap.size + 1 + 1, 7, none⟩) (by show w.heap.size ≤ w.heap.size + 1 + 1; omega) _).drew, hx.set_ _ _, ⟨set_low p0 (by omega), set_low p1 (by omega), set_low p2 (by omega), set_low p3 (by omega), set_low p4 (by omega), set_low p5 (by omega), set_low p6 (by omega), set_low p7 (by omega)⟩, ⟨set_low b0 (by omega), set_low b1 (by omega)⟩, set_cell c0, set_cell c1, set_cell c2, set_cell c3, set_cell c4, set_cell c5, set_cell c6, set_cell c7⟩
set_option maxHeartbeats 16000000 in
theorem law_circleTranslates (xa ya xb yb xc yc xd yd xe ye : Int) (w : World) (hw : Wts w) (sxa : S xa) (sya : S ya) (sxb : S xb) (syb : S yb) (sxc : S xc) (syc : S yc) (sxd : S xd) (syd : S yd) (sxe : S xe) (sye : S ye) :
    Calls Tryd.prog 6 #[.agg #[.int .i64 xa, .int .i64 ya, .int .i64 xb, .int .i64 yb, .int .i64 xc, .int .i64 yc, .int .i64 xd, .int .i64 yd], .agg #[.int .i64 xe, .int .i64 ye]] w fun e w' => e = .returned (.bool true) ∧ Below w.heap.size w w' := by
  go_enter Tryd.func6, Tryd.ntmps6
  go_wp2
  go_loopw [8] (fun i wr => TrRel w xa ya xb yb xc yc xd yd xe ye i wr) (fun i _ => 4 - (intOf i).toNat)
  case atStart =>
    refine ⟨0, rfl, by omega, (fun j h => absurd h (by omega)), ⟨((((Below.refl _ _).alloc (Nat.le_refl _) _).alloc (by simp) _).alloc (by simp; omega) _), ?_, ⟨by simp [go_sem], by simp [go_sem], by simp [go_sem], by simp [go_sem], by simp [go_sem], by simp [go_sem], by simp [go_sem], by simp [go_sem]⟩, ⟨by simp [go_sem], by simp [go_sem]⟩, by simp [go_sem, trC], by simp [go_sem, trC], by simp [go_sem, trC], by simp [go_sem, trC], by simp [go_sem, trC], by simp [go_sem, trC], by simp [go_sem, trC], by simp [go_sem, trC]⟩⟩
    have := box8' ((w.alloc (.cells #[.int .i64 xa, .int .i64 ya, .int .i64 xb, .int .i64 yb, .int .i64 xc, .int .i64 yc, .int .i64 xd, .int .i64 yd] 24)).alloc (.cells #[.int .i64 xe, .int .i64 ye] 23)) (.int .i64 xa) (.int .i64 ya) (.int .i64 xb) (.int .i64 yb) (.int .i64 xc) (.int .i64 yc) (.int .i64 xd) (.int .i64 yd) 24
    simpa using this
  case round =>
    obtain ⟨k, rfl, hk, hS, hat⟩ := hrel
    have HS := Lib.hid hS
    clear hS
    have hks : k = 0 ∨ k = 1 ∨ k = 2 ∨ k = 3 ∨ k = 4 := by omega
    rcases hks with rfl | rfl | rfl | rfl | rfl
    · have h0 : TrAt w xa ya xb yb xc yc xd yd xe ye xa ya xb yb xc yc xd yd wr := by simpa [trC] using hat
      clear hat
      obtain ⟨X, hX⟩ : ∃ X, IntKind.i64.wrap (xa + xe) = X := ⟨_, rfl⟩
      obtain ⟨Y, hY⟩ : ∃ Y, IntKind.i64.wrap (ya + ye) = Y := ⟨_, rfl⟩
      have HX := Lib.hid (show shA xa xe = X from hX)
      have HY := Lib.hid (show shA ya ye = Y from hY)
      obtain ⟨wa, hwa⟩ : ∃ wa, wa = (wr.setCell ⟨w.heap.size + 1 + 1, 0, none⟩ (.int .i64 X)).drew := ⟨_, rfl⟩
      obtain ⟨wb, hwb⟩ : ∃ wb, wb = (wa.setCell ⟨w.heap.size + 1 + 1, 1, none⟩ (.int .i64 Y)).drew := ⟨_, rfl⟩
      have HA := Lib.hid (show TrAt w xa ya xb yb xc yc xd yd xe ye X ya xb yb xc yc xd yd wa by rw [hwa]; exact h0.set0)
      have HB := Lib.hid (show TrAt w xa ya xb yb xc yc xd yd xe ye X Y xb yb xc yc xd yd wb by rw [hwb]; exact HA.out.set1)
      have HWA := Lib.hid hwa
      have HWB := Lib.hid hwb
      clear hwa hwb
      have c0 := h0.qs.1
      have f0 := (h0.box 0 (by decide)).2
      have e0 := h0.bs.1
      go_upto_region 5 with (fail)
      go_cut [] from 11 to 19 (fun wx => wx = wa)
      case first =>
        go_region_law (fail)
        all_goals
          go_wp2
          go_meet
          exact HWA.out.symm
      case rest =>
        obtain rfl := hcut.symm
        clear c0 f0 e0 h0
        have c0 := HA.out.qs.2.1
        have f0 := (HA.out.box 1 (by decide)).2
        have e0 := HA.out.bs.2
        go_upto_region 6 with (fail)
        go_cut [] from 20 to 28 (fun wx => wx = wb)
        case first =>
          go_region_law (fail)
          all_goals
            go_wp2
            go_meet
            exact HWB.out.symm
        case rest =>
          obtain rfl := hcut.symm
          clear c0 f0 e0 HA HWA HWB hX hY
          have p0 := HB.out.ps.1
          have p1 := HB.out.ps.2.1
          have e0 := HB.out.bs.1
          have e1 := HB.out.bs.2
          have q0 := HB.out.qs.1
          have q1 := HB.out.qs.2.1
          obtain ⟨ok, hok⟩ : ∃ ok, ok = shOk xa ya xe ye := ⟨_, rfl⟩
          have HOK := Lib.hid (show ∀ b1 b2 : Bool, (decide (X < xa) == decide (xe < 0)) = b1 → (decide (Y < ya) == decide (ye < 0)) = b2 → ok = (b1 && b2) from fun b1 b2 h1 h2 => by rw [hok]; unfold shOk; rw [HX.out, HY.out, h1, h2])
          have HOK2 := Lib.hid hok
          clear hok
          go_upto_region 7 with (fail)
          go_cut [56] from 29 to 55 (fun s wx => s = .bool (!ok) ∧ ∃ n, wx = wb.drewN n)
          case first =>
            by_cases t1 : X < xa <;> by_cases t2 : xe < 0 <;> by_cases t3 : Y < ya <;> by_cases t4 : ye < 0
            all_goals
              have HE := Lib.hid (HOK.out _ _ rfl rfl)
              simp only [t1, t2, t3, t4, decide_true, decide_false, beq_self_eq_true, Bool.and_self, Bool.false_eq_true, Bool.true_eq_false, Bool.and_false, Bool.and_true, Bool.true_and, Bool.false_and, Bool.false_beq, Bool.true_beq, Bool.not_true, Bool.not_false] at HE
              go_quiet (fail)
              all_goals
                go_wp2
                go_meet
                exact ⟨by rw [HE.out]; rfl, _, rfl⟩
          case rest =>
            obtain ⟨rfl, n, rfl⟩ := hcut
            clear p0 p1 e0 e1 q0 q1
            cases ok with
            | false =>
              have hb0 := below_drewN' HB.out.below n
              go_upto_region 8 with (fail)
              refine box_plan0 (c := ⟨w, (wb.drewN n), (fun _ => none)⟩) (Ctx.ok_none hb0) [[], [(57, 0)]] [(57, 0), (4, 1)] [
                  (fun v _ _ => v = .bool true),
                  (fun v _ _ => v = .bool true)
                ] (fun _ => none) (by kernel_rfl) (by kernel_rfl) ⟨stab_eq, stab_eq, trivial⟩ ?steps ?fin
              case steps =>
                refine ⟨?_, ?_, trivial⟩
                · intro vs g w2 hI hF hR K hK
                  simp only [Facts, fill, Act.put, z1, z2, z3, z4, z5, Nat.reduceAdd] at hF hR hK ⊢
                  go_simp
                  refine (gAlive7 hI hw).mono ?_
                  rintro e w3 ⟨v3, rfl, hv, hb⟩
                  exact hK _ _ _ (hI.call hb) (Step.call hI hb) hv
                · intro vs g w2 hI hF hR K hK
                  simp only [Facts, fill, Act.put, z1, z2, z3, z4, z5, Nat.reduceAdd] at hF hR hK ⊢
                  obtain ⟨r0, -⟩ := hR
                  generalize vs 0 = x0 at *
                  subst r0
                  go_simp
                  exact hK _ _ _ hI (Step.refl hI) rfl
              case fin =>
                intro vs g wR8 hI hR
                have r1 := hR 1 (by decide)
                simp only [fill, Act.put, z1, z2, z3, z4, z5] at r1 ⊢
                clear hR
                generalize vs 1 = x1 at *
                subst r1
                have hBR8 := hI.below
                have HCR8 := hI.next (Ctx.ok_none hb0)
                clear hI
                go_wp2
                go_ret
                exact ⟨rfl, hBR8⟩
            | true =>
              have hsh := shI_ok (p := xa) (q := ya) (x := xe) (y := ye) sxa sya sxe sye (by unfold shI; rw [← HOK2.out]; rfl)
              rw [HX.out, HY.out] at hsh
              have hs1 := shA_s xa xe
              have hs2 := shA_s ya ye
              rw [HX.out, hsh.1] at hs1
              rw [HY.out, hsh.2] at hs2
              obtain ⟨rfl, rfl⟩ := hsh
              have HB2 := Lib.hid (show TrAt w xa ya xb yb xc yc xd yd xe ye (xa + xe) (ya + ye) xb yb xc yc xd yd (wb.drewN n) from ⟨below_drewN' HB.out.below n, HB.out.box, HB.out.ps, HB.out.bs, HB.out.qs⟩)
              clear HX HY
              go_wp2
              go_roundw
              case rel => exact ⟨1, rfl, by omega, (fun j hj => by have hj2 : j = 0 ∨ j < 0 := (by omega); rcases hj2 with rfl | hj2 <;> first | exact ⟨(fun _ => ⟨hs1, hs2⟩), (fun h => absurd h (by decide)), (fun h => absurd h (by decide)), (fun h => absurd h (by decide))⟩ | exact HS.out _ hj2), by simpa [trC] using HB2.out⟩
              case measure => simp [intOf]
    · have h0 : TrAt w xa ya xb yb xc yc xd yd xe ye (xa + xe) (ya + ye) xb yb xc yc xd yd wr := by simpa [trC] using hat
      clear hat
      obtain ⟨X, hX⟩ : ∃ X, IntKind.i64.wrap (xb + xe) = X := ⟨_, rfl⟩
      obtain ⟨Y, hY⟩ : ∃ Y, IntKind.i64.wrap (yb + ye) = Y := ⟨_, rfl⟩
      have HX := Lib.hid (show shA xb xe = X from hX)
      have HY := Lib.hid (show shA yb ye = Y from hY)
      obtain ⟨wa, hwa⟩ : ∃ wa, wa = (wr.setCell ⟨w.heap.size + 1 + 1, 2, none⟩ (.int .i64 X)).drew := ⟨_, rfl⟩
      obtain ⟨wb, hwb⟩ : ∃ wb, wb = (wa.setCell ⟨w.heap.size + 1 + 1, 3, none⟩ (.int .i64 Y)).drew := ⟨_, rfl⟩
      have HA := Lib.hid (show TrAt w xa ya xb yb xc yc xd yd xe ye (xa + xe) (ya + ye) X yb xc yc xd yd wa by rw [hwa]; exact h0.set2)
      have HB := Lib.hid (show TrAt w xa ya xb yb xc yc xd yd xe ye (xa + xe) (ya + ye) X Y xc yc xd yd wb by rw [hwb]; exact HA.out.set3)
      have HWA := Lib.hid hwa
      have HWB := Lib.hid hwb
      clear hwa hwb
      have c0 := h0.qs.2.2.1
      have f0 := (h0.box 2 (by decide)).2
      have e0 := h0.bs.1
      go_upto_region 5 with (fail)
      go_cut [] from 11 to 19 (fun wx => wx = wa)
      case first =>
        go_region_law (fail)
        all_goals
          go_wp2
          go_meet
          exact HWA.out.symm
      case rest =>
        obtain rfl := hcut.symm
        clear c0 f0 e0 h0
        have c0 := HA.out.qs.2.2.2.1
        have f0 := (HA.out.box 3 (by decide)).2
        have e0 := HA.out.bs.2
        go_upto_region 6 with (fail)
        go_cut [] from 20 to 28 (fun wx => wx = wb)
        case first =>
          go_region_law (fail)
          all_goals
            go_wp2
            go_meet
            exact HWB.out.symm
        case rest =>
          obtain rfl := hcut.symm
          clear c0 f0 e0 HA HWA HWB hX hY
          have p0 := HB.out.ps.2.2.1
          have p1 := HB.out.ps.2.2.2.1
          have e0 := HB.out.bs.1
          have e1 := HB.out.bs.2
          have q0 := HB.out.qs.2.2.1
          have q1 := HB.out.qs.2.2.2.1
          obtain ⟨ok, hok⟩ : ∃ ok, ok = shOk xb yb xe ye := ⟨_, rfl⟩
          have HOK := Lib.hid (show ∀ b1 b2 : Bool, (decide (X < xb) == decide (xe < 0)) = b1 → (decide (Y < yb) == decide (ye < 0)) = b2 → ok = (b1 && b2) from fun b1 b2 h1 h2 => by rw [hok]; unfold shOk; rw [HX.out, HY.out, h1, h2])
          have HOK2 := Lib.hid hok
          clear hok
          go_upto_region 7 with (fail)
          go_cut [56] from 29 to 55 (fun s wx => s = .bool (!ok) ∧ ∃ n, wx = wb.drewN n)
          case first =>
            by_cases t1 : X < xb <;> by_cases t2 : xe < 0 <;> by_cases t3 : Y < yb <;> by_cases t4 : ye < 0
            all_goals
              have HE := Lib.hid (HOK.out _ _ rfl rfl)
              simp only [t1, t2, t3, t4, decide_true, decide_false, beq_self_eq_true, Bool.and_self, Bool.false_eq_true, Bool.true_eq_false, Bool.and_false, Bool.and_true, Bool.true_and, Bool.false_and, Bool.false_beq, Bool.true_beq, Bool.not_true, Bool.not_false] at HE
              go_quiet (fail)
              all_goals
                go_wp2
                go_meet
                exact ⟨by rw [HE.out]; rfl, _, rfl⟩
          case rest =>
            obtain ⟨rfl, n, rfl⟩ := hcut
            clear p0 p1 e0 e1 q0 q1
            cases ok with
            | false =>
              have hb0 := below_drewN' HB.out.below n
              go_upto_region 8 with (fail)
              refine box_plan0 (c := ⟨w, (wb.drewN n), (fun _ => none)⟩) (Ctx.ok_none hb0) [[], [(57, 0)]] [(57, 0), (4, 1)] [
                  (fun v _ _ => v = .bool true),
                  (fun v _ _ => v = .bool true)
                ] (fun _ => none) (by kernel_rfl) (by kernel_rfl) ⟨stab_eq, stab_eq, trivial⟩ ?steps ?fin
              case steps =>
                refine ⟨?_, ?_, trivial⟩
                · intro vs g w2 hI hF hR K hK
                  simp only [Facts, fill, Act.put, z1, z2, z3, z4, z5, Nat.reduceAdd] at hF hR hK ⊢
                  go_simp
                  refine (gAlive7 hI hw).mono ?_
                  rintro e w3 ⟨v3, rfl, hv, hb⟩
                  exact hK _ _ _ (hI.call hb) (Step.call hI hb) hv
                · intro vs g w2 hI hF hR K hK
                  simp only [Facts, fill, Act.put, z1, z2, z3, z4, z5, Nat.reduceAdd] at hF hR hK ⊢
                  obtain ⟨r0, -⟩ := hR
                  generalize vs 0 = x0 at *
                  subst r0
                  go_simp
                  exact hK _ _ _ hI (Step.refl hI) rfl
              case fin =>
                intro vs g wR8 hI hR
                have r1 := hR 1 (by decide)
                simp only [fill, Act.put, z1, z2, z3, z4, z5] at r1 ⊢
                clear hR
                generalize vs 1 = x1 at *
                subst r1
                have hBR8 := hI.below
                have HCR8 := hI.next (Ctx.ok_none hb0)
                clear hI
                go_wp2
                go_ret
                exact ⟨rfl, hBR8⟩
            | true =>
              have hsh := shI_ok (p := xb) (q := yb) (x := xe) (y := ye) sxb syb sxe sye (by unfold shI; rw [← HOK2.out]; rfl)
              rw [HX.out, HY.out] at hsh
              have hs1 := shA_s xb xe
              have hs2 := shA_s yb ye
              rw [HX.out, hsh.1] at hs1
              rw [HY.out, hsh.2] at hs2
              obtain ⟨rfl, rfl⟩ := hsh
              have HB2 := Lib.hid (show TrAt w xa ya xb yb xc yc xd yd xe ye (xa + xe) (ya + ye) (xb + xe) (yb + ye) xc yc xd yd (wb.drewN n) from ⟨below_drewN' HB.out.below n, HB.out.box, HB.out.ps, HB.out.bs, HB.out.qs⟩)
              clear HX HY
              go_wp2
              go_roundw
              case rel => exact ⟨2, rfl, by omega, (fun j hj => by have hj2 : j = 1 ∨ j < 1 := (by omega); rcases hj2 with rfl | hj2 <;> first | exact ⟨(fun h => absurd h (by decide)), (fun _ => ⟨hs1, hs2⟩), (fun h => absurd h (by decide)), (fun h => absurd h (by decide))⟩ | exact HS.out _ hj2), by simpa [trC] using HB2.out⟩
              case measure => simp [intOf]
    · have h0 : TrAt w xa ya xb yb xc yc xd yd xe ye (xa + xe) (ya + ye) (xb + xe) (yb + ye) xc yc xd yd wr := by simpa [trC] using hat
      clear hat
      obtain ⟨X, hX⟩ : ∃ X, IntKind.i64.wrap (xc + xe) = X := ⟨_, rfl⟩
      obtain ⟨Y, hY⟩ : ∃ Y, IntKind.i64.wrap (yc + ye) = Y := ⟨_, rfl⟩
      have HX := Lib.hid (show shA xc xe = X from hX)
      have HY := Lib.hid (show shA yc ye = Y from hY)
      obtain ⟨wa, hwa⟩ : ∃ wa, wa = (wr.setCell ⟨w.heap.size + 1 + 1, 4, none⟩ (.int .i64 X)).drew := ⟨_, rfl⟩
      obtain ⟨wb, hwb⟩ : ∃ wb, wb = (wa.setCell ⟨w.heap.size + 1 + 1, 5, none⟩ (.int .i64 Y)).drew := ⟨_, rfl⟩
      have HA := Lib.hid (show TrAt w xa ya xb yb xc yc xd yd xe ye (xa + xe) (ya + ye) (xb + xe) (yb + ye) X yc xd yd wa by rw [hwa]; exact h0.set4)
      have HB := Lib.hid (show TrAt w xa ya xb yb xc yc xd yd xe ye (xa + xe) (ya + ye) (xb + xe) (yb + ye) X Y xd yd wb by rw [hwb]; exact HA.out.set5)
      have HWA := Lib.hid hwa
      have HWB := Lib.hid hwb
      clear hwa hwb
      have c0 := h0.qs.2.2.2.2.1
      have f0 := (h0.box 4 (by decide)).2
      have e0 := h0.bs.1
      go_upto_region 5 with (fail)
      go_cut [] from 11 to 19 (fun wx => wx = wa)
      case first =>
        go_region_law (fail)
        all_goals
          go_wp2
          go_meet
          exact HWA.out.symm
      case rest =>
        obtain rfl := hcut.symm
        clear c0 f0 e0 h0
        have c0 := HA.out.qs.2.2.2.2.2.1
        have f0 := (HA.out.box 5 (by decide)).2
        have e0 := HA.out.bs.2
        go_upto_region 6 with (fail)
        go_cut [] from 20 to 28 (fun wx => wx = wb)
        case first =>
          go_region_law (fail)
          all_goals
            go_wp2
            go_meet
            exact HWB.out.symm
        case rest =>
          obtain rfl := hcut.symm
          clear c0 f0 e0 HA HWA HWB hX hY
          have p0 := HB.out.ps.2.2.2.2.1
          have p1 := HB.out.ps.2.2.2.2.2.1
          have e0 := HB.out.bs.1
          have e1 := HB.out.bs.2
          have q0 := HB.out.qs.2.2.2.2.1
          have q1 := HB.out.qs.2.2.2.2.2.1
          obtain ⟨ok, hok⟩ : ∃ ok, ok = shOk xc yc xe ye := ⟨_, rfl⟩
          have HOK := Lib.hid (show ∀ b1 b2 : Bool, (decide (X < xc) == decide (xe < 0)) = b1 → (decide (Y < yc) == decide (ye < 0)) = b2 → ok = (b1 && b2) from fun b1 b2 h1 h2 => by rw [hok]; unfold shOk; rw [HX.out, HY.out, h1, h2])
          have HOK2 := Lib.hid hok
          clear hok
          go_upto_region 7 with (fail)
          go_cut [56] from 29 to 55 (fun s wx => s = .bool (!ok) ∧ ∃ n, wx = wb.drewN n)
          case first =>
            by_cases t1 : X < xc <;> by_cases t2 : xe < 0 <;> by_cases t3 : Y < yc <;> by_cases t4 : ye < 0
            all_goals
              have HE := Lib.hid (HOK.out _ _ rfl rfl)
              simp only [t1, t2, t3, t4, decide_true, decide_false, beq_self_eq_true, Bool.and_self, Bool.false_eq_true, Bool.true_eq_false, Bool.and_false, Bool.and_true, Bool.true_and, Bool.false_and, Bool.false_beq, Bool.true_beq, Bool.not_true, Bool.not_false] at HE
              go_quiet (fail)
              all_goals
                go_wp2
                go_meet
                exact ⟨by rw [HE.out]; rfl, _, rfl⟩
          case rest =>
            obtain ⟨rfl, n, rfl⟩ := hcut
            clear p0 p1 e0 e1 q0 q1
            cases ok with
            | false =>
              have hb0 := below_drewN' HB.out.below n
              go_upto_region 8 with (fail)
              refine box_plan0 (c := ⟨w, (wb.drewN n), (fun _ => none)⟩) (Ctx.ok_none hb0) [[], [(57, 0)]] [(57, 0), (4, 1)] [
                  (fun v _ _ => v = .bool true),
                  (fun v _ _ => v = .bool true)
                ] (fun _ => none) (by kernel_rfl) (by kernel_rfl) ⟨stab_eq, stab_eq, trivial⟩ ?steps ?fin
              case steps =>
                refine ⟨?_, ?_, trivial⟩
                · intro vs g w2 hI hF hR K hK
                  simp only [Facts, fill, Act.put, z1, z2, z3, z4, z5, Nat.reduceAdd] at hF hR hK ⊢
                  go_simp
                  refine (gAlive7 hI hw).mono ?_
                  rintro e w3 ⟨v3, rfl, hv, hb⟩
                  exact hK _ _ _ (hI.call hb) (Step.call hI hb) hv
                · intro vs g w2 hI hF hR K hK
                  simp only [Facts, fill, Act.put, z1, z2, z3, z4, z5, Nat.reduceAdd] at hF hR hK ⊢
                  obtain ⟨r0, -⟩ := hR
                  generalize vs 0 = x0 at *
                  subst r0
                  go_simp
                  exact hK _ _ _ hI (Step.refl hI) rfl
              case fin =>
                intro vs g wR8 hI hR
                have r1 := hR 1 (by decide)
                simp only [fill, Act.put, z1, z2, z3, z4, z5] at r1 ⊢
                clear hR
                generalize vs 1 = x1 at *
                subst r1
                have hBR8 := hI.below
                have HCR8 := hI.next (Ctx.ok_none hb0)
                clear hI
                go_wp2
                go_ret
                exact ⟨rfl, hBR8⟩
            | true =>
              have hsh := shI_ok (p := xc) (q := yc) (x := xe) (y := ye) sxc syc sxe sye (by unfold shI; rw [← HOK2.out]; rfl)
              rw [HX.out, HY.out] at hsh
              have hs1 := shA_s xc xe
              have hs2 := shA_s yc ye
              rw [HX.out, hsh.1] at hs1
              rw [HY.out, hsh.2] at hs2
              obtain ⟨rfl, rfl⟩ := hsh
              have HB2 := Lib.hid (show TrAt w xa ya xb yb xc yc xd yd xe ye (xa + xe) (ya + ye) (xb + xe) (yb + ye) (xc + xe) (yc + ye) xd yd (wb.drewN n) from ⟨below_drewN' HB.out.below n, HB.out.box, HB.out.ps, HB.out.bs, HB.out.qs⟩)
              clear HX HY
              go_wp2
              go_roundw
              case rel => exact ⟨3, rfl, by omega, (fun j hj => by have hj2 : j = 2 ∨ j < 2 := (by omega); rcases hj2 with rfl | hj2 <;> first | exact ⟨(fun h => absurd h (by decide)), (fun h => absurd h (by decide)), (fun _ => ⟨hs1, hs2⟩), (fun h => absurd h (by decide))⟩ | exact HS.out _ hj2), by simpa [trC] using HB2.out⟩
              case measure => simp [intOf]
    · have h0 : TrAt w xa ya xb yb xc yc xd yd xe ye (xa + xe) (ya + ye) (xb + xe) (yb + ye) (xc + xe) (yc + ye) xd yd wr := by simpa [trC] using hat
      clear hat
      obtain ⟨X, hX⟩ : ∃ X, IntKind.i64.wrap (xd + xe) = X := ⟨_, rfl⟩
      obtain ⟨Y, hY⟩ : ∃ Y, IntKind.i64.wrap (yd + ye) = Y := ⟨_, rfl⟩
      have HX := Lib.hid (show shA xd xe = X from hX)
      have HY := Lib.hid (show shA yd ye = Y from hY)
      obtain ⟨wa, hwa⟩ : ∃ wa, wa = (wr.setCell ⟨w.heap.size + 1 + 1, 6, none⟩ (.int .i64 X)).drew := ⟨_, rfl⟩
      obtain ⟨wb, hwb⟩ : ∃ wb, wb = (wa.setCell ⟨w.heap.size + 1 + 1, 7, none⟩ (.int .i64 Y)).drew := ⟨_, rfl⟩
      have HA := Lib.hid (show TrAt w xa ya xb yb xc yc xd yd xe ye (xa + xe) (ya + ye) (xb + xe) (yb + ye) (xc + xe) (yc + ye) X yd wa by rw [hwa]; exact h0.set6)
      have HB := Lib.hid (show TrAt w xa ya xb yb xc yc xd yd xe ye (xa + xe) (ya + ye) (xb + xe) (yb + ye) (xc + xe) (yc + ye) X Y wb by rw [hwb]; exact HA.out.set7)
      have HWA := Lib.hid hwa
      have HWB := Lib.hid hwb
      clear hwa hwb
      have c0 := h0.qs.2.2.2.2.2.2.1
      have f0 := (h0.box 6 (by decide)).2
      have e0 := h0.bs.1
      go_upto_region 5 with (fail)
      go_cut [] from 11 to 19 (fun wx => wx = wa)
      case first =>
        go_region_law (fail)
        all_goals
          go_wp2
          go_meet
          exact HWA.out.symm
      case rest =>
        obtain rfl := hcut.symm
        clear c0 f0 e0 h0
        have c0 := HA.out.qs.2.2.2.2.2.2.2
        have f0 := (HA.out.box 7 (by decide)).2
        have e0 := HA.out.bs.2
        go_upto_region 6 with (fail)
        go_cut [] from 20 to 28 (fun wx => wx = wb)
        case first =>
          go_region_law (fail)
          all_goals
            go_wp2
            go_meet
            exact HWB.out.symm
        case rest =>
          obtain rfl := hcut.symm
          clear c0 f0 e0 HA HWA HWB hX hY
          have p0 := HB.out.ps.2.2.2.2.2.2.1
          have p1 := HB.out.ps.2.2.2.2.2.2.2
          have e0 := HB.out.bs.1
          have e1 := HB.out.bs.2
          have q0 := HB.out.qs.2.2.2.2.2.2.1
          have q1 := HB.out.qs.2.2.2.2.2.2.2
          obtain ⟨ok, hok⟩ : ∃ ok, ok = shOk xd yd xe ye := ⟨_, rfl⟩
          have HOK := Lib.hid (show ∀ b1 b2 : Bool, (decide (X < xd) == decide (xe < 0)) = b1 → (decide (Y < yd) == decide (ye < 0)) = b2 → ok = (b1 && b2) from fun b1 b2 h1 h2 => by rw [hok]; unfold shOk; rw [HX.out, HY.out, h1, h2])
          have HOK2 := Lib.hid hok
          clear hok
          go_upto_region 7 with (fail)
          go_cut [56] from 29 to 55 (fun s wx => s = .bool (!ok) ∧ ∃ n, wx = wb.drewN n)
          case first =>
            by_cases t1 : X < xd <;> by_cases t2 : xe < 0 <;> by_cases t3 : Y < yd <;> by_cases t4 : ye < 0
            all_goals
              have HE := Lib.hid (HOK.out _ _ rfl rfl)
              simp only [t1, t2, t3, t4, decide_true, decide_false, beq_self_eq_true, Bool.and_self, Bool.false_eq_true, Bool.true_eq_false, Bool.and_false, Bool.and_true, Bool.true_and, Bool.false_and, Bool.false_beq, Bool.true_beq, Bool.not_true, Bool.not_false] at HE
              go_quiet (fail)
              all_goals
                go_wp2
                go_meet
                exact ⟨by rw [HE.out]; rfl, _, rfl⟩
          case rest =>
            obtain ⟨rfl, n, rfl⟩ := hcut
            clear p0 p1 e0 e1 q0 q1
            cases ok with
            | false =>
              have hb0 := below_drewN' HB.out.below n
              go_upto_region 8 with (fail)
              refine box_plan0 (c := ⟨w, (wb.drewN n), (fun _ => none)⟩) (Ctx.ok_none hb0) [[], [(57, 0)]] [(57, 0), (4, 1)] [
                  (fun v _ _ => v = .bool true),
                  (fun v _ _ => v = .bool true)
                ] (fun _ => none) (by kernel_rfl) (by kernel_rfl) ⟨stab_eq, stab_eq, trivial⟩ ?steps ?fin
              case steps =>
                refine ⟨?_, ?_, trivial⟩
                · intro vs g w2 hI hF hR K hK
                  simp only [Facts, fill, Act.put, z1, z2, z3, z4, z5, Nat.reduceAdd] at hF hR hK ⊢
                  go_simp
                  refine (gAlive7 hI hw).mono ?_
                  rintro e w3 ⟨v3, rfl, hv, hb⟩
                  exact hK _ _ _ (hI.call hb) (Step.call hI hb) hv
                · intro vs g w2 hI hF hR K hK
                  simp only [Facts, fill, Act.put, z1, z2, z3, z4, z5, Nat.reduceAdd] at hF hR hK ⊢
                  obtain ⟨r0, -⟩ := hR
                  generalize vs 0 = x0 at *
                  subst r0
                  go_simp
                  exact hK _ _ _ hI (Step.refl hI) rfl
              case fin =>
                intro vs g wR8 hI hR
                have r1 := hR 1 (by decide)
                simp only [fill, Act.put, z1, z2, z3, z4, z5] at r1 ⊢
                clear hR
                generalize vs 1 = x1 at *
                subst r1
                have hBR8 := hI.below
                have HCR8 := hI.next (Ctx.ok_none hb0)
                clear hI
                go_wp2
                go_ret
                exact ⟨rfl, hBR8⟩
            | true =>
              have hsh := shI_ok (p := xd) (q := yd) (x := xe) (y := ye) sxd syd sxe sye (by unfold shI; rw [← HOK2.out]; rfl)
              rw [HX.out, HY.out] at hsh
              have hs1 := shA_s xd xe
              have hs2 := shA_s yd ye
              rw [HX.out, hsh.1] at hs1
              rw [HY.out, hsh.2] at hs2
              obtain ⟨rfl, rfl⟩ := hsh
              have HB2 := Lib.hid (show TrAt w xa ya xb yb xc yc xd yd xe ye (xa + xe) (ya + ye) (xb + xe) (yb + ye) (xc + xe) (yc + ye) (xd + xe) (yd + ye) (wb.drewN n) from ⟨below_drewN' HB.out.below n, HB.out.box, HB.out.ps, HB.out.bs, HB.out.qs⟩)
              clear HX HY
              go_wp2
              go_roundw
              case rel => exact ⟨4, rfl, by omega, (fun j hj => by have hj2 : j = 3 ∨ j < 3 := (by omega); rcases hj2 with rfl | hj2 <;> first | exact ⟨(fun h => absurd h (by decide)), (fun h => absurd h (by decide)), (fun h => absurd h (by decide)), (fun _ => ⟨hs1, hs2⟩)⟩ | exact HS.out _ hj2), by simpa [trC] using HB2.out⟩
              case measure => simp [intOf]
    · have h0 : TrAt w xa ya xb yb xc yc xd yd xe ye (xa + xe) (ya + ye) (xb + xe) (yb + ye) (xc + xe) (yc + ye) (xd + xe) (yd + ye) wr := by simpa [trC] using hat
      clear hat
      have s0 := (HS.out 0 (by decide)).1 rfl
      have sxf := s0.1
      have syf := s0.2
      clear s0
      have s1 := (HS.out 1 (by decide)).2.1 rfl
      have sxg := s1.1
      have syg := s1.2
      clear s1
      have s2 := (HS.out 2 (by decide)).2.2.1 rfl
      have sxh := s2.1
      have syh := s2.2
      clear s2
      have s3 := (HS.out 3 (by decide)).2.2.2 rfl
      have sxi := s3.1
      have syi := s3.2
      clear s3
      obtain ⟨xf, hxf⟩ : ∃ v, xa + xe = v := ⟨_, rfl⟩
      rw [hxf] at h0 sxf
      obtain ⟨yf, hyf⟩ : ∃ v, ya + ye = v := ⟨_, rfl⟩
      rw [hyf] at h0 syf
      obtain ⟨xg, hxg⟩ : ∃ v, xb + xe = v := ⟨_, rfl⟩
      rw [hxg] at h0 sxg
      obtain ⟨yg, hyg⟩ : ∃ v, yb + ye = v := ⟨_, rfl⟩
      rw [hyg] at h0 syg
      obtain ⟨xh, hxh⟩ : ∃ v, xc + xe = v := ⟨_, rfl⟩
      rw [hxh] at h0 sxh
      obtain ⟨yh, hyh⟩ : ∃ v, yc + ye = v := ⟨_, rfl⟩
      rw [hyh] at h0 syh
      obtain ⟨xi, hxi⟩ : ∃ v, xd + xe = v := ⟨_, rfl⟩
      rw [hxi] at h0 sxi
      obtain ⟨yi, hyi⟩ : ∃ v, yd + ye = v := ⟨_, rfl⟩
      rw [hyi] at h0 syi
      have HL := Lib.hid (show lc xa ya xb yb xc yc xd yd = lc xf yf xg yg xh yh xi yi by rw [← hxf, ← hyf, ← hxg, ← hyg, ← hxh, ← hyh, ← hxi, ← hyi]; exact (lc_move xa ya xb yb xc yc xd yd xe ye).symm)
      clear hxf hyf hxg hyg hxh hyh hxi hyi HS
      have Cp_W_0 := Lib.hid h0.ps.1
      have Cp_W_1 := Lib.hid h0.ps.2.1
      have Cp_W_2 := Lib.hid h0.ps.2.2.1
      have Cp_W_3 := Lib.hid h0.ps.2.2.2.1
      have Cp_W_4 := Lib.hid h0.ps.2.2.2.2.1
      have Cp_W_5 := Lib.hid h0.ps.2.2.2.2.2.1
      have Cp_W_6 := Lib.hid h0.ps.2.2.2.2.2.2.1
      have Cp_W_7 := Lib.hid h0.ps.2.2.2.2.2.2.2
      have Cq_W_0 := Lib.hid h0.qs.1
      have Cq_W_1 := Lib.hid h0.qs.2.1
      have Cq_W_2 := Lib.hid h0.qs.2.2.1
      have Cq_W_3 := Lib.hid h0.qs.2.2.2.1
      have Cq_W_4 := Lib.hid h0.qs.2.2.2.2.1
      have Cq_W_5 := Lib.hid h0.qs.2.2.2.2.2.1
      have Cq_W_6 := Lib.hid h0.qs.2.2.2.2.2.2.1
      have Cq_W_7 := Lib.hid h0.qs.2.2.2.2.2.2.2
      have hb0 := h0.below
      clear h0
      go_upto_region 10 with (fail)
      refine box_plan (c := ⟨w, wr, (fun _ => none)⟩) (Ctx.ok_none hb0) (by kernel_rfl) [[], [(59, 0)], [(60, 1)], [(60, 1), (61, 2)], [(60, 1)], [(60, 1), (63, 4)], [(60, 1)], [(60, 1), (65, 6)], [(60, 1)], [(60, 1), (67, 8)], [(60, 1), (62, 3), (64, 5), (66, 7), (68, 9)], [(60, 1)], [(60, 1), (70, 11)], [(60, 1)], [(60, 1), (72, 13)], [(60, 1)], [(60, 1), (74, 15)], [(60, 1)], [(60, 1), (76, 17)], [(60, 1), (71, 12), (73, 14), (75, 16), (77, 18)], [(60, 1), (69, 10), (78, 19)], [(60, 1), (79, 20)], [(80, 21)]] [(59, 0), (60, 1), (61, 2), (62, 3), (63, 4), (64, 5), (65, 6), (66, 7), (67, 8), (68, 9), (69, 10), (70, 11), (71, 12), (72, 13), (73, 14), (74, 15), (75, 16), (76, 17), (77, 18), (78, 19), (79, 20), (80, 21), (4, 22)] [
          (fun v _ _ => v = .bool true),
          (fun v _ _ => v = .bool true),
          (fun v _ _ => v = .pointer (some ⟨w.heap.size, 0, none⟩)),
          (fun v _ _ => v = .agg #[.int .i64 xa, .int .i64 ya]),
          (fun v _ _ => v = .pointer (some ⟨w.heap.size, 2, none⟩)),
          (fun v _ _ => v = .agg #[.int .i64 xb, .int .i64 yb]),
          (fun v _ _ => v = .pointer (some ⟨w.heap.size, 4, none⟩)),
          (fun v _ _ => v = .agg #[.int .i64 xc, .int .i64 yc]),
          (fun v _ _ => v = .pointer (some ⟨w.heap.size, 6, none⟩)),
          (fun v _ _ => v = .agg #[.int .i64 xd, .int .i64 yd]),
          LimR 5 (lc xa ya xb yb xc yc xd yd),
          (fun v _ _ => v = .pointer (some ⟨w.heap.size + 1 + 1, 0, none⟩)),
          (fun v _ _ => v = .agg #[.int .i64 xf, .int .i64 yf]),
          (fun v _ _ => v = .pointer (some ⟨w.heap.size + 1 + 1, 2, none⟩)),
          (fun v _ _ => v = .agg #[.int .i64 xg, .int .i64 yg]),
          (fun v _ _ => v = .pointer (some ⟨w.heap.size + 1 + 1, 4, none⟩)),
          (fun v _ _ => v = .agg #[.int .i64 xh, .int .i64 yh]),
          (fun v _ _ => v = .pointer (some ⟨w.heap.size + 1 + 1, 6, none⟩)),
          (fun v _ _ => v = .agg #[.int .i64 xi, .int .i64 yi]),
          LimR 5 (lc xf yf xg yg xh yh xi yi),
          (fun v _ _ => v = .bool true),
          (fun v _ _ => v = .bool true),
          (fun v _ _ => v = .bool true)
        ] (fun _ => none) (by kernel_rfl) (by kernel_rfl) ⟨stab_eq, stab_eq, stab_eq, stab_eq, stab_eq, stab_eq, stab_eq, stab_eq, stab_eq, stab_eq, stab_firm (limR_firm _ _), stab_eq, stab_eq, stab_eq, stab_eq, stab_eq, stab_eq, stab_eq, stab_eq, stab_firm (limR_firm _ _), stab_eq, stab_eq, stab_eq, trivial⟩ ?steps ?fin
      case steps =>
        refine ⟨?_, ?_, ?_, ?_, ?_, ?_, ?_, ?_, ?_, ?_, ?_, ?_, ?_, ?_, ?_, ?_, ?_, ?_, ?_, ?_, ?_, ?_, ?_, trivial⟩
        · intro vs g w2 hI hF hR K hK
          simp only [Facts, fill, Act.put, z1, z2, z3, z4, z5, Nat.reduceAdd] at hF hR hK ⊢
          go_simp
          refine (gAlive7 hI hw).mono ?_
          rintro e w3 ⟨v3, rfl, hv, hb⟩
          exact hK _ _ _ (hI.call hb) (Step.call hI hb) hv
        · intro vs g w2 hI hF hR K hK
          simp only [Facts, fill, Act.put, z1, z2, z3, z4, z5, Nat.reduceAdd] at hF hR hK ⊢
          obtain ⟨r0, -⟩ := hR
          generalize vs 0 = x0 at *
          subst r0
          go_simp
          exact hK _ _ _ hI (Step.refl hI) rfl
        · intro vs g w2 hI hF hR K hK
          simp only [Facts, fill, Act.put, z1, z2, z3, z4, z5, Nat.reduceAdd] at hF hR hK ⊢
          obtain ⟨r1, -⟩ := hR
          generalize vs 1 = x1 at *
          subst r1
          go_simp
          exact hK _ _ _ hI (Step.refl hI) rfl
        · intro vs g w2 hI hF hR K hK
          simp only [Facts, fill, Act.put, z1, z2, z3, z4, z5, Nat.reduceAdd] at hF hR hK ⊢
          obtain ⟨r1, r2, -⟩ := hR
          generalize vs 1 = x1, vs 2 = x2 at *
          subst r1 r2
          have k0 := hI.cell Cp_W_0.out (fun _ h => by cases h)
          have k1 := hI.cell Cp_W_1.out (fun _ h => by cases h)
          go_simp
          exact hK _ _ _ hI (Step.refl hI) rfl
        · intro vs g w2 hI hF hR K hK
          simp only [Facts, fill, Act.put, z1, z2, z3, z4, z5, Nat.reduceAdd] at hF hR hK ⊢
          obtain ⟨r1, -⟩ := hR
          generalize vs 1 = x1 at *
          subst r1
          go_simp
          exact hK _ _ _ hI (Step.refl hI) rfl
        · intro vs g w2 hI hF hR K hK
          simp only [Facts, fill, Act.put, z1, z2, z3, z4, z5, Nat.reduceAdd] at hF hR hK ⊢
          obtain ⟨r1, r4, -⟩ := hR
          generalize vs 1 = x1, vs 4 = x4 at *
          subst r1 r4
          have k0 := hI.cell Cp_W_2.out (fun _ h => by cases h)
          have k1 := hI.cell Cp_W_3.out (fun _ h => by cases h)
          go_simp
          exact hK _ _ _ hI (Step.refl hI) rfl
        · intro vs g w2 hI hF hR K hK
          simp only [Facts, fill, Act.put, z1, z2, z3, z4, z5, Nat.reduceAdd] at hF hR hK ⊢
          obtain ⟨r1, -⟩ := hR
          generalize vs 1 = x1 at *
          subst r1
          go_simp
          exact hK _ _ _ hI (Step.refl hI) rfl
        · intro vs g w2 hI hF hR K hK
          simp only [Facts, fill, Act.put, z1, z2, z3, z4, z5, Nat.reduceAdd] at hF hR hK ⊢
          obtain ⟨r1, r6, -⟩ := hR
          generalize vs 1 = x1, vs 6 = x6 at *
          subst r1 r6
          have k0 := hI.cell Cp_W_4.out (fun _ h => by cases h)
          have k1 := hI.cell Cp_W_5.out (fun _ h => by cases h)
          go_simp
          exact hK _ _ _ hI (Step.refl hI) rfl
        · intro vs g w2 hI hF hR K hK
          simp only [Facts, fill, Act.put, z1, z2, z3, z4, z5, Nat.reduceAdd] at hF hR hK ⊢
          obtain ⟨r1, -⟩ := hR
          generalize vs 1 = x1 at *
          subst r1
          go_simp
          exact hK _ _ _ hI (Step.refl hI) rfl
        · intro vs g w2 hI hF hR K hK
          simp only [Facts, fill, Act.put, z1, z2, z3, z4, z5, Nat.reduceAdd] at hF hR hK ⊢
          obtain ⟨r1, r8, -⟩ := hR
          generalize vs 1 = x1, vs 8 = x8 at *
          subst r1 r8
          have k0 := hI.cell Cp_W_6.out (fun _ h => by cases h)
          have k1 := hI.cell Cp_W_7.out (fun _ h => by cases h)
          go_simp
          exact hK _ _ _ hI (Step.refl hI) rfl
        · intro vs g w2 hI hF hR K hK
          simp only [Facts, fill, Act.put, z1, z2, z3, z4, z5, Nat.reduceAdd] at hF hR hK ⊢
          obtain ⟨r1, r3, r5, r7, r9, -⟩ := hR
          generalize vs 1 = x1, vs 3 = x3, vs 5 = x5, vs 7 = x7, vs 9 = x9 at *
          subst r1 r3 r5 r7 r9
          go_simp
          refine (gCircleValue hI hw (by first | assumption | (unfold S; decide)) (by first | assumption | (unfold S; decide)) (by first | assumption | (unfold S; decide)) (by first | assumption | (unfold S; decide)) (by first | assumption | (unfold S; decide)) (by first | assumption | (unfold S; decide)) (by first | assumption | (unfold S; decide)) (by first | assumption | (unfold S; decide))).mono ?_
          rintro e w3 ⟨v3, rfl, hv, hb⟩
          exact hK _ _ _ (hI.call hb) (Step.call hI hb) hv
        · intro vs g w2 hI hF hR K hK
          simp only [Facts, fill, Act.put, z1, z2, z3, z4, z5, Nat.reduceAdd] at hF hR hK ⊢
          obtain ⟨r1, -⟩ := hR
          generalize vs 1 = x1 at *
          subst r1
          go_simp
          exact hK _ _ _ hI (Step.refl hI) rfl
        · intro vs g w2 hI hF hR K hK
          simp only [Facts, fill, Act.put, z1, z2, z3, z4, z5, Nat.reduceAdd] at hF hR hK ⊢
          obtain ⟨r1, r11, -⟩ := hR
          generalize vs 1 = x1, vs 11 = x11 at *
          subst r1 r11
          have k0 := hI.cell Cq_W_0.out (fun _ h => by cases h)
          have k1 := hI.cell Cq_W_1.out (fun _ h => by cases h)
          go_simp
          exact hK _ _ _ hI (Step.refl hI) rfl
        · intro vs g w2 hI hF hR K hK
          simp only [Facts, fill, Act.put, z1, z2, z3, z4, z5, Nat.reduceAdd] at hF hR hK ⊢
          obtain ⟨r1, -⟩ := hR
          generalize vs 1 = x1 at *
          subst r1
          go_simp
          exact hK _ _ _ hI (Step.refl hI) rfl
        · intro vs g w2 hI hF hR K hK
          simp only [Facts, fill, Act.put, z1, z2, z3, z4, z5, Nat.reduceAdd] at hF hR hK ⊢
          obtain ⟨r1, r13, -⟩ := hR
          generalize vs 1 = x1, vs 13 = x13 at *
          subst r1 r13
          have k0 := hI.cell Cq_W_2.out (fun _ h => by cases h)
          have k1 := hI.cell Cq_W_3.out (fun _ h => by cases h)
          go_simp
          exact hK _ _ _ hI (Step.refl hI) rfl
        · intro vs g w2 hI hF hR K hK
          simp only [Facts, fill, Act.put, z1, z2, z3, z4, z5, Nat.reduceAdd] at hF hR hK ⊢
          obtain ⟨r1, -⟩ := hR
          generalize vs 1 = x1 at *
          subst r1
          go_simp
          exact hK _ _ _ hI (Step.refl hI) rfl
        · intro vs g w2 hI hF hR K hK
          simp only [Facts, fill, Act.put, z1, z2, z3, z4, z5, Nat.reduceAdd] at hF hR hK ⊢
          obtain ⟨r1, r15, -⟩ := hR
          generalize vs 1 = x1, vs 15 = x15 at *
          subst r1 r15
          have k0 := hI.cell Cq_W_4.out (fun _ h => by cases h)
          have k1 := hI.cell Cq_W_5.out (fun _ h => by cases h)
          go_simp
          exact hK _ _ _ hI (Step.refl hI) rfl
        · intro vs g w2 hI hF hR K hK
          simp only [Facts, fill, Act.put, z1, z2, z3, z4, z5, Nat.reduceAdd] at hF hR hK ⊢
          obtain ⟨r1, -⟩ := hR
          generalize vs 1 = x1 at *
          subst r1
          go_simp
          exact hK _ _ _ hI (Step.refl hI) rfl
        · intro vs g w2 hI hF hR K hK
          simp only [Facts, fill, Act.put, z1, z2, z3, z4, z5, Nat.reduceAdd] at hF hR hK ⊢
          obtain ⟨r1, r17, -⟩ := hR
          generalize vs 1 = x1, vs 17 = x17 at *
          subst r1 r17
          have k0 := hI.cell Cq_W_6.out (fun _ h => by cases h)
          have k1 := hI.cell Cq_W_7.out (fun _ h => by cases h)
          go_simp
          exact hK _ _ _ hI (Step.refl hI) rfl
        · intro vs g w2 hI hF hR K hK
          simp only [Facts, fill, Act.put, z1, z2, z3, z4, z5, Nat.reduceAdd] at hF hR hK ⊢
          obtain ⟨r1, r12, r14, r16, r18, -⟩ := hR
          generalize vs 1 = x1, vs 12 = x12, vs 14 = x14, vs 16 = x16, vs 18 = x18 at *
          subst r1 r12 r14 r16 r18
          go_simp
          refine (gCircleValue hI hw (by first | assumption | (unfold S; decide)) (by first | assumption | (unfold S; decide)) (by first | assumption | (unfold S; decide)) (by first | assumption | (unfold S; decide)) (by first | assumption | (unfold S; decide)) (by first | assumption | (unfold S; decide)) (by first | assumption | (unfold S; decide)) (by first | assumption | (unfold S; decide))).mono ?_
          rintro e w3 ⟨v3, rfl, hv, hb⟩
          exact hK _ _ _ (hI.call hb) (Step.call hI hb) hv
        · intro vs g w2 hI hF hR K hK
          simp only [Facts, fill, Act.put, z1, z2, z3, z4, z5, Nat.reduceAdd] at hF hR hK ⊢
          obtain ⟨r1, r10, r19, -⟩ := hR
          generalize vs 1 = x1, vs 10 = x10, vs 19 = x19 at *
          subst r1
          go_simp
          refine (gSame r10 r19 (by decide) (by rw [HL.out])).mono ?_
          rintro e w3 ⟨v3, rfl, hv, hb⟩
          exact hK _ _ _ (hI.call hb) (Step.call hI hb) hv
        · intro vs g w2 hI hF hR K hK
          simp only [Facts, fill, Act.put, z1, z2, z3, z4, z5, Nat.reduceAdd] at hF hR hK ⊢
          obtain ⟨r1, r20, -⟩ := hR
          generalize vs 1 = x1, vs 20 = x20 at *
          subst r1 r20
          go_simp
          exact hK _ _ _ hI (Step.refl hI) rfl
        · intro vs g w2 hI hF hR K hK
          simp only [Facts, fill, Act.put, z1, z2, z3, z4, z5, Nat.reduceAdd] at hF hR hK ⊢
          obtain ⟨r21, -⟩ := hR
          generalize vs 21 = x21 at *
          subst r21
          go_simp
          exact hK _ _ _ hI (Step.refl hI) rfl
      case fin =>
        intro vs g wR10 hI hR
        have r22 := hR 22 (by decide)
        simp only [fill, Act.put, z1, z2, z3, z4, z5] at r22 ⊢
        clear hR
        generalize vs 22 = x22 at *
        have Cp_R10_0 := Lib.hid (hI.cell Cp_W_0.out (fun _ h => by cases h))
        have Cp_R10_1 := Lib.hid (hI.cell Cp_W_1.out (fun _ h => by cases h))
        have Cp_R10_2 := Lib.hid (hI.cell Cp_W_2.out (fun _ h => by cases h))
        have Cp_R10_3 := Lib.hid (hI.cell Cp_W_3.out (fun _ h => by cases h))
        have Cp_R10_4 := Lib.hid (hI.cell Cp_W_4.out (fun _ h => by cases h))
        have Cp_R10_5 := Lib.hid (hI.cell Cp_W_5.out (fun _ h => by cases h))
        have Cp_R10_6 := Lib.hid (hI.cell Cp_W_6.out (fun _ h => by cases h))
        have Cp_R10_7 := Lib.hid (hI.cell Cp_W_7.out (fun _ h => by cases h))
        have Cq_R10_0 := Lib.hid (hI.cell Cq_W_0.out (fun _ h => by cases h))
        have Cq_R10_1 := Lib.hid (hI.cell Cq_W_1.out (fun _ h => by cases h))
        have Cq_R10_2 := Lib.hid (hI.cell Cq_W_2.out (fun _ h => by cases h))
        have Cq_R10_3 := Lib.hid (hI.cell Cq_W_3.out (fun _ h => by cases h))
        have Cq_R10_4 := Lib.hid (hI.cell Cq_W_4.out (fun _ h => by cases h))
        have Cq_R10_5 := Lib.hid (hI.cell Cq_W_5.out (fun _ h => by cases h))
        have Cq_R10_6 := Lib.hid (hI.cell Cq_W_6.out (fun _ h => by cases h))
        have Cq_R10_7 := Lib.hid (hI.cell Cq_W_7.out (fun _ h => by cases h))
        subst r22
        have hBR10 := hI.below
        have HCR10 := hI.next (Ctx.ok_none hb0)
        clear hI
        go_wp2
        go_ret
        exact ⟨rfl, hBR10⟩
end Go.Proofs.YtckeognbfdladaaDoor
