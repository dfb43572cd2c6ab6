/-
  Packed texts: CodL.
-/
import Derived.BigQuiet
import Derived.Deep.QuietTactic
import Derived.WalkSpells
import Derived.Test.YthmkllpdkcmccaaGreatDoorP11
namespace Go.Proofs.YthmkllpdkcmccaaGreatDoor
open Go.RowKit
set_option maxRecDepth 100000
set_option linter.unusedVariables false
set_option linter.unusedSimpArgs false

theorem pres_h {w : World} (hw : Wts w) : w.cell? ⟨1, 2, none⟩ = some (.int .i64 3) ∧ w.cell? ⟨1, 3, none⟩ = some (.int .i64 2) ∧ w.cell? ⟨1, 4, none⟩ = some (.int .i64 4) ∧ w.cell? ⟨1, 5, none⟩ = some (.int .i64 2) ∧ w.cell? ⟨1, 6, none⟩ = some (.int .i64 1) ∧ w.cell? ⟨1, 7, none⟩ = some (.int .i64 3) ∧ w.cell? ⟨1, 8, none⟩ = some (.int .i64 1) ∧ w.cell? ⟨1, 9, none⟩ = some (.int .i64 2) ∧ w.cell? ⟨1, 10, none⟩ = some (.int .i64 0) ∧ w.cell? ⟨1, 11, none⟩ = some (.int .i64 1) := by
  have h := hw.2 (1, [.int .i64 0, .int .i64 0, .int .i64 3, .int .i64 2, .int .i64 4, .int .i64 2, .int .i64 1, .int .i64 3, .int .i64 1, .int .i64 2, .int .i64 0, .int .i64 1]) (by simp [seatTabs])
  exact ⟨h 2 _ rfl, h 3 _ rfl, h 4 _ rfl, h 5 _ rfl, h 6 _ rfl, h 7 _ rfl, h 8 _ rfl, h 9 _ rfl, h 10 _ rfl, h 11 _ rfl⟩
theorem cntQ_ok {h : Hq} (k : Okh h) : cntQ h = h.pts := by
  have h1 := k.op
  have h2 := k.pts0
  unfold cntQ
  by_cases e5 : h.op = 5
  · rw [if_neg (by omega)]
  · rw [if_pos (by omega), h2 e5]
set_option maxHeartbeats 1000000 in
theorem pointsOf_any (op vx pts : Int) (sl : Value) (ks : List (Bool × Int)) (p : Int) (w : World) (hw : Wts w) (hk : Okh ⟨op, vx, ks, pts⟩) (hp : cntP ⟨op, vx, ks, pts⟩ = p) :
    Calls Tryz.prog 81 #[.agg #[.int .i64 op, .int .i64 vx, sl, .int .i64 pts]] w fun e w' => e = .returned (.int .i64 p) ∧ Below w.heap.size w w' := by
  obtain ⟨W, hW⟩ : ∃ W, W = w.alloc (.cells #[.int .i64 op, .int .i64 vx, sl, .int .i64 pts] 37) := ⟨_, rfl⟩
  obtain ⟨h0, _, g0, g1, g2, g3⟩ := box4 hW
  obtain ⟨bg, hbg⟩ : ∃ b, b = w.heap.size := ⟨_, rfl⟩
  rw [← hbg] at g0 g1 g2 g3
  have HW := Lib.hid hW
  have Hbg := Lib.hid hbg
  have hop := hk.op
  have hv3 := hk.vs3
  have hv0 := hk.vs0
  simp only at hop hv3 hv0
  unfold cntP at hp
  simp only at hp
  obtain ⟨t2, t3, t4, t5, t6, t7, t8, t9, t10, t11⟩ := pres_h (hw.below h0)
  clear hW hbg hk hw
  rcases (show op = 1 ∨ op = 2 ∨ op = 3 ∨ op = 4 ∨ op = 5 by omega) with rfl | rfl | rfl | rfl | rfl
  · obtain rfl : vx = 0 := hv0 (by decide)
    have HR := Lib.hid (show p = 3 by rw [← hp]; simp)
    clear hp hv3 hv0 hop
    go_enter Tryz.func81, Tryz.ntmps81
    go_upto_region 1 with (fail)
    rw [← HW.out, ← Hbg.out]
    go_quiet (fail)
    go_wp2
    go_ret
    exact ⟨by rw [HR.out]; rfl, below_drewN' h0 _⟩
  · obtain rfl : vx = 0 := hv0 (by decide)
    have HR := Lib.hid (show p = 4 by rw [← hp]; simp)
    clear hp hv3 hv0 hop
    go_enter Tryz.func81, Tryz.ntmps81
    go_upto_region 1 with (fail)
    rw [← HW.out, ← Hbg.out]
    go_quiet (fail)
    go_wp2
    go_ret
    exact ⟨by rw [HR.out]; rfl, below_drewN' h0 _⟩
  · have HR := Lib.hid (show p = 1 + vx by rw [← hp]; simp; omega)
    have hvb := hv3 rfl
    have e1 : IntKind.i64.wrap (1 + vx) = 1 + vx := wrap_i64' (by omega) (by omega)
    clear hp hv3 hv0 hop
    go_enter Tryz.func81, Tryz.ntmps81
    go_upto_region 1 with (fail)
    rw [← HW.out, ← Hbg.out]
    go_quiet (fail)
    go_wp2
    go_ret
    exact ⟨by rw [HR.out]; rfl, below_drewN' h0 _⟩
  · obtain rfl : vx = 0 := hv0 (by decide)
    have HR := Lib.hid (show p = 1 by rw [← hp]; simp)
    clear hp hv3 hv0 hop
    go_enter Tryz.func81, Tryz.ntmps81
    go_upto_region 1 with (fail)
    rw [← HW.out, ← Hbg.out]
    go_quiet (fail)
    go_wp2
    go_ret
    exact ⟨by rw [HR.out]; rfl, below_drewN' h0 _⟩
  · obtain rfl : vx = 0 := hv0 (by decide)
    have HR := Lib.hid (show p = 0 by rw [← hp]; simp)
    clear hp hv3 hv0 hop
    go_enter Tryz.func81, Tryz.ntmps81
    go_upto_region 1 with (fail)
    rw [← HW.out, ← Hbg.out]
    go_quiet (fail)
    go_wp2
    go_ret
    exact ⟨by rw [HR.out]; rfl, below_drewN' h0 _⟩
/-- Whether the lists of a request are as long as its header says. -/
def lenOk (h : Hq) (rs : List RgD) (np nq : Nat) : Bool := decide (rs.length = h.ks.length ∧ (np : Int) = cntP h ∧ (nq : Int) = cntQ h) && lens rs h.ks
def LRelH (W : World) (rs hrs : List Rg) (t i : Value) (wr : World) : Prop := ∃ k : Nat, i = .int .i64 k ∧ k ≤ rs.length ∧ LensTo rs hrs k ∧ Below W.heap.size W wr
set_option maxHeartbeats 4000000 in
theorem hasLengths_any (op vx pts : Int) (hA : Option Addr) (hn hc : Nat) (hrs : List Rg) (RA : Option Addr) (rn rc : Nat) (rs : List Rg) (PA : Option Addr) (pn pc : Nat) (ps : List Pt) (QA : Option Addr) (qn qc : Nat) (qs : List Qr) (r : Bool) (T : Nat → Prop) (w : World) (hw : Wts w)
    (hr : ReqR w T hA hn hc hrs RA rn rc rs PA pn pc ps QA qn qc qs) (hl : hn ≤ 9223372036854775807 ∧ rn ≤ 9223372036854775807 ∧ pn ≤ 9223372036854775807 ∧ qn ≤ 9223372036854775807) (hk : Okh ⟨op, vx, hrs.map rgK, pts⟩) (hv : ∀ r ∈ hrs, S r.v)
    (hres : lenOk ⟨op, vx, hrs.map rgK, pts⟩ (rs.map rgD) pn qn = r) :
    Calls Tryz.prog 56 #[.agg #[.int .i64 op, .int .i64 vx, .slice hA hn hc, .int .i64 pts, .slice RA rn rc, .slice PA pn pc, .slice QA qn qc]] w fun e w' => e = .returned (.bool r) ∧ Below w.heap.size w w' := by
  obtain ⟨W, hW⟩ : ∃ W, W = w.alloc (.cells #[.int .i64 op, .int .i64 vx, .slice hA hn hc, .int .i64 pts, .slice RA rn rc, .slice PA pn pc, .slice QA qn qc] 48) := ⟨_, rfl⟩
  obtain ⟨B, hB⟩ : ∃ b, b = w.heap.size := ⟨_, rfl⟩
  obtain ⟨h0, hsW, g0, g1, g2, g3, g4, g5, g6⟩ := box7 hW
  rw [← hB] at g0 g1 g2 g3 g4 g5 g6
  have hBW : B < W.heap.size := by omega
  clear hsW
  obtain ⟨W1, hW1⟩ : ∃ W1, W1 = W.alloc (.cells #[.int .i64 op, .int .i64 vx, .slice hA hn hc, .int .i64 pts] 37) := ⟨_, rfl⟩
  obtain ⟨h1, _, j0, j1, j2, j3⟩ := box4 hW1
  obtain ⟨bh, hbh⟩ : ∃ b, b = W.heap.size := ⟨_, rfl⟩
  rw [← hbh] at j0 j1 j2 j3
  have hbw1 := h0.trans (h1.mono h0.size)
  have HBX := Lib.hid ((ReqAt.mk g0 g1 g2 g3 g4 g5 g6).next h1 hBW)
  have HBH := Lib.hid (And.intro j0 (And.intro j1 (And.intro j2 j3)))
  obtain ⟨np, hnp⟩ : ∃ np, cntP ⟨op, vx, hrs.map rgK, pts⟩ = np := ⟨_, rfl⟩
  have hnq : cntQ ⟨op, vx, hrs.map rgK, pts⟩ = pts := cntQ_ok hk
  have HNP := Lib.hid hnp
  have HNQ := Lib.hid hnq
  have HWT := Lib.hid (hw.below hbw1)
  have HK := Lib.hid hk
  have HV := Lib.hid hv
  have hr1 := (hr.next h0).next (h1.mono (Nat.le_refl _))
  have HR := Lib.hid hr1
  have HHN := Lib.hid hr1.hlen
  have HRN := Lib.hid hr1.rlen
  have HPN := Lib.hid hr1.plen
  have HQN := Lib.hid hr1.qlen
  have HE := Lib.hid hres
  have HW := Lib.hid hW
  have HB := Lib.hid hB
  have HW1 := Lib.hid hW1
  have Hbh := Lib.hid hbh
  have k4 := HBX.out.c4
  have k5 := HBX.out.c5
  have k6 := HBX.out.c6
  obtain ⟨l1, l2, l3, l4⟩ := hl
  clear hW hB hW1 hbh hr hr1 hk hv hnp hnq hres hw g0 g1 g2 g3 g4 g5 g6
  go_enter Tryz.func56, Tryz.ntmps56
  go_upto_region 1 with (fail)
  rw [← HW.out, ← HB.out]
  have g0 : W.cell? ⟨B, 0, none⟩ = some (.int .i64 op) := by rw [HW.out, HB.out]; simp [go_sem]
  have g1 : W.cell? ⟨B, 1, none⟩ = some (.int .i64 vx) := by rw [HW.out, HB.out]; simp [go_sem]
  have g2 : W.cell? ⟨B, 2, none⟩ = some (.slice hA hn hc) := by rw [HW.out, HB.out]; simp [go_sem]
  have g3 : W.cell? ⟨B, 3, none⟩ = some (.int .i64 pts) := by rw [HW.out, HB.out]; simp [go_sem]
  go_upto_region 2 with (fail)
  rw [← HW1.out, ← Hbh.out]
  clear g0 g1 g2 g3
  by_cases hc1 : rn = hn
  · by_cases hc2 : (pn : Int) = np
    · by_cases hc3 : (qn : Int) = pts
      · have d1 : ((rn : Int) != hn) = false := by rw [bne_eq_false_iff_eq, hc1]
        have d2 : ((pn : Int) != np) = false := by rw [bne_eq_false_iff_eq]; exact hc2
        have d3 : ((qn : Int) != pts) = false := by rw [bne_eq_false_iff_eq]; exact hc3
        have HLEN := Lib.hid (show rs.length = hrs.length by rw [← HRN.out, ← HHN.out]; exact hc1)
        have HC := Lib.hid (show lens (rs.map rgD) (hrs.map rgK) = r by
          rw [← HE.out]
          unfold lenOk
          rw [decide_eq_true ⟨by simpa using HLEN.out, by rw [HNP.out]; exact hc2, by rw [HNQ.out]; exact hc3⟩, Bool.true_and])
        clear hc1 hc2 hc3
        refine dir_plain (by kernel_rfl) 23 [[], [(8, 0)], [(9, 1)], [], [(11, 3)], [(12, 4)], [(10, 2), (13, 5)], [(14, 6)], [(15, 7)], [(15, 7), (16, 8)], [(15, 7), (17, 9)], [(15, 7)], [(15, 7), (19, 11)], [(15, 7), (18, 10), (20, 12)], [(15, 7), (21, 13)], [(22, 14)], [(23, 15)], [(23, 15), (24, 16)], [(23, 15), (25, 17)], [(23, 15)], [(23, 15), (27, 19)], [(23, 15), (26, 18), (28, 20)], [(23, 15), (29, 21)]] [(8, 0), (9, 1), (10, 2), (11, 3), (12, 4), (13, 5), (14, 6), (15, 7), (16, 8), (17, 9), (18, 10), (19, 11), (20, 12), (21, 13), (22, 14), (23, 15), (24, 16), (25, 17), (26, 18), (27, 19), (28, 20), (29, 21), (30, 22)] [
            (fun z_ _ => z_ = .pointer (some ⟨B, 4, none⟩)),
            (fun z_ _ => z_ = .slice RA rn rc),
            (fun z_ _ => z_ = .int .i64 rn),
            (fun z_ _ => z_ = .pointer (some ⟨bh, 2, none⟩)),
            (fun z_ _ => z_ = .slice hA hn hc),
            (fun z_ _ => z_ = .int .i64 hn),
            (fun z_ _ => z_ = .bool false),
            (fun z_ _ => z_ = .bool false),
            (fun z_ _ => z_ = .pointer (some ⟨B, 5, none⟩)),
            (fun z_ _ => z_ = .slice PA pn pc),
            (fun z_ _ => z_ = .int .i64 pn),
            (fun z_ _ => z_ = .agg #[.int .i64 op, .int .i64 vx, .slice hA hn hc, .int .i64 pts]),
            (fun z_ _ => z_ = .int .i64 np),
            (fun z_ _ => z_ = .bool false),
            (fun z_ _ => z_ = .bool false),
            (fun z_ _ => z_ = .bool false),
            (fun z_ _ => z_ = .pointer (some ⟨B, 6, none⟩)),
            (fun z_ _ => z_ = .slice QA qn qc),
            (fun z_ _ => z_ = .int .i64 qn),
            (fun z_ _ => z_ = .pointer (some ⟨bh, 3, none⟩)),
            (fun z_ _ => z_ = .int .i64 pts),
            (fun z_ _ => z_ = .bool false),
            (fun z_ _ => z_ = .bool false)
          ] (by kernel_rfl) (by kernel_rfl) (by kernel_rfl) (by decide) ⟨dstab_eq, dstab_eq, dstab_eq, dstab_eq, dstab_eq, dstab_eq, dstab_eq, dstab_eq, dstab_eq, dstab_eq, dstab_eq, dstab_eq, dstab_eq, dstab_eq, dstab_eq, dstab_eq, dstab_eq, dstab_eq, dstab_eq, dstab_eq, dstab_eq, dstab_eq, dstab_eq, trivial⟩ ?steps ?fin
        case steps =>
          refine ⟨?_, ?_, ?_, ?_, ?_, ?_, ?_, ?_, ?_, ?_, ?_, ?_, ?_, ?_, ?_, ?_, ?_, ?_, ?_, ?_, ?_, ?_, ?_, trivial⟩
          · intro vs g w2 hI hF hR K hK
            simp only [Facts, fill, Act.put, z1, z2, z3, z4, z5, Nat.reduceAdd] at hF hR hK ⊢
            go_simp
            exact hK _ () _ hI (Below.refl _ _) rfl
          · intro vs g w2 hI hF hR K hK
            simp only [Facts, fill, Act.put, z1, z2, z3, z4, z5, Nat.reduceAdd] at hF hR hK ⊢
            obtain ⟨r0, -⟩ := hR
            generalize vs 0 = x0 at *
            subst r0
            have k0 := (hI.cell (lt_of_cell k4)).trans k4
            go_simp
            exact hK _ () _ hI (Below.refl _ _) rfl
          · intro vs g w2 hI hF hR K hK
            simp only [Facts, fill, Act.put, z1, z2, z3, z4, z5, Nat.reduceAdd] at hF hR hK ⊢
            obtain ⟨r1, -⟩ := hR
            generalize vs 1 = x1 at *
            subst r1
            go_simp
            exact hK _ () _ hI (Below.refl _ _) rfl
          · intro vs g w2 hI hF hR K hK
            simp only [Facts, fill, Act.put, z1, z2, z3, z4, z5, Nat.reduceAdd] at hF hR hK ⊢
            go_simp
            exact hK _ () _ hI (Below.refl _ _) rfl
          · intro vs g w2 hI hF hR K hK
            simp only [Facts, fill, Act.put, z1, z2, z3, z4, z5, Nat.reduceAdd] at hF hR hK ⊢
            obtain ⟨r3, -⟩ := hR
            generalize vs 3 = x3 at *
            subst r3
            have k0 := (hI.cell (lt_of_cell j2)).trans j2
            go_simp
            exact hK _ () _ hI (Below.refl _ _) rfl
          · intro vs g w2 hI hF hR K hK
            simp only [Facts, fill, Act.put, z1, z2, z3, z4, z5, Nat.reduceAdd] at hF hR hK ⊢
            obtain ⟨r4, -⟩ := hR
            generalize vs 4 = x4 at *
            subst r4
            go_simp
            exact hK _ () _ hI (Below.refl _ _) rfl
          · intro vs g w2 hI hF hR K hK
            simp only [Facts, fill, Act.put, z1, z2, z3, z4, z5, Nat.reduceAdd] at hF hR hK ⊢
            obtain ⟨r2, r5, -⟩ := hR
            generalize vs 2 = x2, vs 5 = x5 at *
            subst r2 r5
            have hd := d1
            go_simp
            exact hK _ () _ hI (Below.refl _ _) rfl
          · intro vs g w2 hI hF hR K hK
            simp only [Facts, fill, Act.put, z1, z2, z3, z4, z5, Nat.reduceAdd] at hF hR hK ⊢
            obtain ⟨r6, -⟩ := hR
            generalize vs 6 = x6 at *
            subst r6
            go_simp
            exact hK _ () _ hI (Below.refl _ _) rfl
          · intro vs g w2 hI hF hR K hK
            simp only [Facts, fill, Act.put, z1, z2, z3, z4, z5, Nat.reduceAdd] at hF hR hK ⊢
            obtain ⟨r7, -⟩ := hR
            generalize vs 7 = x7 at *
            subst r7
            go_simp
            exact hK _ () _ hI (Below.refl _ _) rfl
          · intro vs g w2 hI hF hR K hK
            simp only [Facts, fill, Act.put, z1, z2, z3, z4, z5, Nat.reduceAdd] at hF hR hK ⊢
            obtain ⟨r7, r8, -⟩ := hR
            generalize vs 7 = x7, vs 8 = x8 at *
            subst r7 r8
            have k0 := (hI.cell (lt_of_cell k5)).trans k5
            go_simp
            exact hK _ () _ hI (Below.refl _ _) rfl
          · intro vs g w2 hI hF hR K hK
            simp only [Facts, fill, Act.put, z1, z2, z3, z4, z5, Nat.reduceAdd] at hF hR hK ⊢
            obtain ⟨r7, r9, -⟩ := hR
            generalize vs 7 = x7, vs 9 = x9 at *
            subst r7 r9
            go_simp
            exact hK _ () _ hI (Below.refl _ _) rfl
          · intro vs g w2 hI hF hR K hK
            simp only [Facts, fill, Act.put, z1, z2, z3, z4, z5, Nat.reduceAdd] at hF hR hK ⊢
            obtain ⟨r7, -⟩ := hR
            generalize vs 7 = x7 at *
            subst r7
            have k0 := (hI.cell (lt_of_cell j0)).trans j0
            have k1 := (hI.cell (lt_of_cell j1)).trans j1
            have k2 := (hI.cell (lt_of_cell j2)).trans j2
            have k3 := (hI.cell (lt_of_cell j3)).trans j3
            go_simp
            exact hK _ () _ hI (Below.refl _ _) rfl
          · intro vs g w2 hI hF hR K hK
            simp only [Facts, fill, Act.put, z1, z2, z3, z4, z5, Nat.reduceAdd] at hF hR hK ⊢
            obtain ⟨r7, r11, -⟩ := hR
            generalize vs 7 = x7, vs 11 = x11 at *
            subst r7 r11
            go_simp
            refine (pointsOf_any op vx pts (.slice hA hn hc) (hrs.map rgK) np _ (HWT.out.below hI) HK.out HNP.out).mono ?_
            rintro e w3 ⟨rfl, hb⟩
            exact hK _ () _ (hI.trans (hb.mono hI.size)) hb rfl
          · intro vs g w2 hI hF hR K hK
            simp only [Facts, fill, Act.put, z1, z2, z3, z4, z5, Nat.reduceAdd] at hF hR hK ⊢
            obtain ⟨r7, r10, r12, -⟩ := hR
            generalize vs 7 = x7, vs 10 = x10, vs 12 = x12 at *
            subst r7 r10 r12
            have hd := d2
            go_simp
            exact hK _ () _ hI (Below.refl _ _) rfl
          · intro vs g w2 hI hF hR K hK
            simp only [Facts, fill, Act.put, z1, z2, z3, z4, z5, Nat.reduceAdd] at hF hR hK ⊢
            obtain ⟨r7, r13, -⟩ := hR
            generalize vs 7 = x7, vs 13 = x13 at *
            subst r7 r13
            go_simp
            exact hK _ () _ hI (Below.refl _ _) rfl
          · intro vs g w2 hI hF hR K hK
            simp only [Facts, fill, Act.put, z1, z2, z3, z4, z5, Nat.reduceAdd] at hF hR hK ⊢
            obtain ⟨r14, -⟩ := hR
            generalize vs 14 = x14 at *
            subst r14
            go_simp
            exact hK _ () _ hI (Below.refl _ _) rfl
          · intro vs g w2 hI hF hR K hK
            simp only [Facts, fill, Act.put, z1, z2, z3, z4, z5, Nat.reduceAdd] at hF hR hK ⊢
            obtain ⟨r15, -⟩ := hR
            generalize vs 15 = x15 at *
            subst r15
            go_simp
            exact hK _ () _ hI (Below.refl _ _) rfl
          · intro vs g w2 hI hF hR K hK
            simp only [Facts, fill, Act.put, z1, z2, z3, z4, z5, Nat.reduceAdd] at hF hR hK ⊢
            obtain ⟨r15, r16, -⟩ := hR
            generalize vs 15 = x15, vs 16 = x16 at *
            subst r15 r16
            have k0 := (hI.cell (lt_of_cell k6)).trans k6
            go_simp
            exact hK _ () _ hI (Below.refl _ _) rfl
          · intro vs g w2 hI hF hR K hK
            simp only [Facts, fill, Act.put, z1, z2, z3, z4, z5, Nat.reduceAdd] at hF hR hK ⊢
            obtain ⟨r15, r17, -⟩ := hR
            generalize vs 15 = x15, vs 17 = x17 at *
            subst r15 r17
            go_simp
            exact hK _ () _ hI (Below.refl _ _) rfl
          · intro vs g w2 hI hF hR K hK
            simp only [Facts, fill, Act.put, z1, z2, z3, z4, z5, Nat.reduceAdd] at hF hR hK ⊢
            obtain ⟨r15, -⟩ := hR
            generalize vs 15 = x15 at *
            subst r15
            go_simp
            exact hK _ () _ hI (Below.refl _ _) rfl
          · intro vs g w2 hI hF hR K hK
            simp only [Facts, fill, Act.put, z1, z2, z3, z4, z5, Nat.reduceAdd] at hF hR hK ⊢
            obtain ⟨r15, r19, -⟩ := hR
            generalize vs 15 = x15, vs 19 = x19 at *
            subst r15 r19
            have k0 := (hI.cell (lt_of_cell j3)).trans j3
            go_simp
            exact hK _ () _ hI (Below.refl _ _) rfl
          · intro vs g w2 hI hF hR K hK
            simp only [Facts, fill, Act.put, z1, z2, z3, z4, z5, Nat.reduceAdd] at hF hR hK ⊢
            obtain ⟨r15, r18, r20, -⟩ := hR
            generalize vs 15 = x15, vs 18 = x18, vs 20 = x20 at *
            subst r15 r18 r20
            have hd := d3
            go_simp
            exact hK _ () _ hI (Below.refl _ _) rfl
          · intro vs g w2 hI hF hR K hK
            simp only [Facts, fill, Act.put, z1, z2, z3, z4, z5, Nat.reduceAdd] at hF hR hK ⊢
            obtain ⟨r15, r21, -⟩ := hR
            generalize vs 15 = x15, vs 21 = x21 at *
            subst r15 r21
            go_simp
            exact hK _ () _ hI (Below.refl _ _) rfl
        case fin =>
          intro vs w2 hI hR
          have r22 := hR 22 (by decide)
          simp only [fill, Act.put, z1, z2, z3, z4, z5] at r22 ⊢
          clear hR
          generalize vs 22 = x22 at *
          subst r22
          refine NoPanic.normal ?_
          have j2 := (hI.cell (lt_of_cell j2)).trans j2
          go_wp2
          go_loopw [4, 34] (fun t i wr => LRelH W1 rs hrs t i wr) (fun _ i _ => rs.length - (intOf i).toNat)
          case atStart => exact ⟨0, rfl, Nat.zero_le _, fun j _ _ h => absurd h (Nat.not_lt_zero j), hI⟩
          case round =>
            clear k4 k5 k6 j0 j1 j2 j3 hI
            obtain ⟨k, rfl, hk, hto, hbr⟩ := hrel
            have HTO := Lib.hid hto
            clear hto
            by_cases hgo : k < rs.length
            · have hgh : k < hrs.length := by rw [← HLEN.out]; exact hgo
              obtain ⟨b, o, rfl, hT, c0, c1, c2⟩ := (HR.out.rrow.next hbr).rg2 hgo
              obtain ⟨b', o', rfl, hT', e0, e1, e2⟩ := (HR.out.hrow.next hbr).rg2 hgh
              have HSC := Lib.hid (fun e => LensTo.succ HTO.out hgo hgh e)
              have hNO := Lib.hid (fun (e : ¬ ((rs[k]).l.length : Int) = sizeF (hrs[k]).v) => show lens (rs.map rgD) (hrs.map rgK) = false from by
                cases hb : lens (rs.map rgD) (hrs.map rgK) with
                | false => rfl
                | true => exact absurd (((lens_to HLEN.out).1 hb) k hgo hgh hgo) e)
              have HSv := Lib.hid (HV.out _ (List.getElem_mem hgh))
              obtain ⟨m, hm⟩ : ∃ m, (rs[k]).l.length = m := ⟨_, rfl⟩
              rw [hm] at c2 HSC hNO
              generalize (rs[k]).A = A2 at c2
              generalize (rs[k]).c = cc at c2
              obtain ⟨m3, hm3⟩ : ∃ m3, (hrs[k]).l.length = m3 := ⟨_, rfl⟩
              rw [hm3] at e2
              generalize (hrs[k]).A = A3 at e2
              generalize (hrs[k]).c = c3 at e2
              generalize (hrs[k]).d = d2 at e0
              generalize (hrs[k]).v = v2 at e1 HSC hNO HSv
              obtain ⟨s, hs⟩ : ∃ s, sizeF v2 = s := ⟨_, rfl⟩
              rw [hs] at HSC hNO
              have HS := Lib.hid hs
              have hkr : (k : Int) < rn := by have := HRN.out; omega
              have hkh : (k : Int) < hn := by have := HHN.out; omega
              obtain ⟨W3, hW3⟩ : ∃ W3, W3 = wr.alloc (.cells #[.bool d2, .int .i64 v2, .slice A3 m3 c3] 53) := ⟨_, rfl⟩
              have h3 : Below wr.heap.size wr W3 := by rw [hW3]; exact (Below.refl _ _).alloc (Nat.le_refl _) _
              obtain ⟨bl, hbl⟩ : ∃ b, b = wr.heap.size := ⟨_, rfl⟩
              have i0 : W3.cell? ⟨bl, 0, none⟩ = some (.bool d2) := by rw [hW3, hbl]; simp [go_sem]
              have i1 : W3.cell? ⟨bl, 1, none⟩ = some (.int .i64 v2) := by rw [hW3, hbl]; simp [go_sem]
              have i2 : W3.cell? ⟨bl, 2, none⟩ = some (.slice A3 m3 c3) := by rw [hW3, hbl]; simp [go_sem]
              have HW3 := Lib.hid hW3
              have HBL := Lib.hid hbl
              clear hs hm hm3 hW3 hbl hT hT'
              go_upto_region 7 with (fail)
              rw [← HW3.out, ← HBL.out]
              have k4 := (h3.cell (lt_of_cell (HBX.out.next hbr (Nat.lt_of_lt_of_le hBW h1.size)).c4)).trans (HBX.out.next hbr (Nat.lt_of_lt_of_le hBW h1.size)).c4
              have c2 := (h3.cell (lt_of_cell c2)).trans c2
              have hb3 := hbr.trans (h3.mono hbr.size)
              clear e0 e1 e2 c0 c1
              by_cases hq8 : (m : Int) = s
              · have hne : ((m : Int) != s) = false := by rw [bne_eq_false_iff_eq]; exact hq8
                have hto2 := HSC.out hq8
                clear hq8
                refine dir_plain (by kernel_rfl) 10 [[], [(39, 0)], [], [(40, 1), (41, 2)], [(42, 3)], [(43, 4)], [(44, 5)], [], [(46, 7)], [(45, 6), (47, 8)]] [(39, 0), (40, 1), (41, 2), (42, 3), (43, 4), (44, 5), (45, 6), (46, 7), (47, 8), (48, 9)] [
                    (fun z_ _ => z_ = .pointer (some ⟨B, 4, none⟩)),
                    (fun z_ _ => z_ = .slice (some ⟨b, o, none⟩) rn rc),
                    (fun z_ _ => z_ = .int .i64 k),
                    (fun z_ _ => z_ = .pointer (some ⟨b, o + k * 3, none⟩)),
                    (fun z_ _ => z_ = .pointer (some ⟨b, o + k * 3 + 2, none⟩)),
                    (fun z_ _ => z_ = .slice A2 m cc),
                    (fun z_ _ => z_ = .int .i64 m),
                    (fun z_ _ => z_ = .agg #[.bool d2, .int .i64 v2, .slice A3 m3 c3]),
                    (fun z_ _ => z_ = .int .i64 s),
                    (fun z_ _ => z_ = .bool false)
                  ] (by kernel_rfl) (by kernel_rfl) (by kernel_rfl) (by decide) ⟨dstab_eq, dstab_eq, dstab_eq, dstab_eq, dstab_eq, dstab_eq, dstab_eq, dstab_eq, dstab_eq, dstab_eq, trivial⟩ ?steps ?fin
                case steps =>
                  refine ⟨?_, ?_, ?_, ?_, ?_, ?_, ?_, ?_, ?_, ?_, trivial⟩
                  · intro vs g w2 hI hF hR K hK
                    simp only [Facts, fill, Act.put, z1, z2, z3, z4, z5, Nat.reduceAdd] at hF hR hK ⊢
                    go_simp
                    exact hK _ () _ hI (Below.refl _ _) rfl
                  · intro vs g w2 hI hF hR K hK
                    simp only [Facts, fill, Act.put, z1, z2, z3, z4, z5, Nat.reduceAdd] at hF hR hK ⊢
                    obtain ⟨r0, -⟩ := hR
                    generalize vs 0 = x0 at *
                    subst r0
                    have k0 := (hI.cell (lt_of_cell k4)).trans k4
                    go_simp
                    exact hK _ () _ hI (Below.refl _ _) rfl
                  · intro vs g w2 hI hF hR K hK
                    simp only [Facts, fill, Act.put, z1, z2, z3, z4, z5, Nat.reduceAdd] at hF hR hK ⊢
                    go_simp
                    exact hK _ () _ hI (Below.refl _ _) rfl
                  · intro vs g w2 hI hF hR K hK
                    simp only [Facts, fill, Act.put, z1, z2, z3, z4, z5, Nat.reduceAdd] at hF hR hK ⊢
                    obtain ⟨r1, r2, -⟩ := hR
                    generalize vs 1 = x1, vs 2 = x2 at *
                    subst r1 r2
                    go_simp
                    exact hK _ () _ hI (Below.refl _ _) rfl
                  · intro vs g w2 hI hF hR K hK
                    simp only [Facts, fill, Act.put, z1, z2, z3, z4, z5, Nat.reduceAdd] at hF hR hK ⊢
                    obtain ⟨r3, -⟩ := hR
                    generalize vs 3 = x3 at *
                    subst r3
                    go_simp
                    exact hK _ () _ hI (Below.refl _ _) rfl
                  · intro vs g w2 hI hF hR K hK
                    simp only [Facts, fill, Act.put, z1, z2, z3, z4, z5, Nat.reduceAdd] at hF hR hK ⊢
                    obtain ⟨r4, -⟩ := hR
                    generalize vs 4 = x4 at *
                    subst r4
                    have k0 := (hI.cell (lt_of_cell c2)).trans c2
                    go_simp
                    exact hK _ () _ hI (Below.refl _ _) rfl
                  · intro vs g w2 hI hF hR K hK
                    simp only [Facts, fill, Act.put, z1, z2, z3, z4, z5, Nat.reduceAdd] at hF hR hK ⊢
                    obtain ⟨r5, -⟩ := hR
                    generalize vs 5 = x5 at *
                    subst r5
                    go_simp
                    exact hK _ () _ hI (Below.refl _ _) rfl
                  · intro vs g w2 hI hF hR K hK
                    simp only [Facts, fill, Act.put, z1, z2, z3, z4, z5, Nat.reduceAdd] at hF hR hK ⊢
                    have k0 := (hI.cell (lt_of_cell i0)).trans i0
                    have k1 := (hI.cell (lt_of_cell i1)).trans i1
                    have k2 := (hI.cell (lt_of_cell i2)).trans i2
                    go_simp
                    exact hK _ () _ hI (Below.refl _ _) rfl
                  · intro vs g w2 hI hF hR K hK
                    simp only [Facts, fill, Act.put, z1, z2, z3, z4, z5, Nat.reduceAdd] at hF hR hK ⊢
                    obtain ⟨r7, -⟩ := hR
                    generalize vs 7 = x7 at *
                    subst r7
                    go_simp
                    refine (fenceSize_c d2 v2 (.slice A3 m3 c3) s _ HSv.out HS.out).mono ?_
                    rintro e w3 ⟨rfl, hb⟩
                    exact hK _ () _ (hI.trans (hb.mono hI.size)) hb rfl
                  · intro vs g w2 hI hF hR K hK
                    simp only [Facts, fill, Act.put, z1, z2, z3, z4, z5, Nat.reduceAdd] at hF hR hK ⊢
                    obtain ⟨r6, r8, -⟩ := hR
                    generalize vs 6 = x6, vs 8 = x8 at *
                    subst r6 r8
                    have hd := hne
                    go_simp
                    exact hK _ () _ hI (Below.refl _ _) rfl
                case fin =>
                  intro vs w2 hI hR
                  have r9 := hR 9 (by decide)
                  simp only [fill, Act.put, z1, z2, z3, z4, z5] at r9 ⊢
                  clear hR
                  generalize vs 9 = x9 at *
                  subst r9
                  refine NoPanic.normal ?_
                  have hbf := hb3.trans (hI.mono hb3.size)
                  go_wp2
                  go_roundw
                  case rel => exact ⟨k + 1, by go_num, hgo, hto2, hbf⟩
                  case measure => simp [intOf]; omega
              · have hne : ((m : Int) != s) = true := by rw [bne_iff_ne]; exact hq8
                have HX := Lib.hid (show r = false by rw [← HC.out]; exact hNO.out hq8)
                clear hq8
                refine dir_plain (by kernel_rfl) 10 [[], [(39, 0)], [], [(40, 1), (41, 2)], [(42, 3)], [(43, 4)], [(44, 5)], [], [(46, 7)], [(45, 6), (47, 8)]] [(39, 0), (40, 1), (41, 2), (42, 3), (43, 4), (44, 5), (45, 6), (46, 7), (47, 8), (48, 9)] [
                    (fun z_ _ => z_ = .pointer (some ⟨B, 4, none⟩)),
                    (fun z_ _ => z_ = .slice (some ⟨b, o, none⟩) rn rc),
                    (fun z_ _ => z_ = .int .i64 k),
                    (fun z_ _ => z_ = .pointer (some ⟨b, o + k * 3, none⟩)),
                    (fun z_ _ => z_ = .pointer (some ⟨b, o + k * 3 + 2, none⟩)),
                    (fun z_ _ => z_ = .slice A2 m cc),
                    (fun z_ _ => z_ = .int .i64 m),
                    (fun z_ _ => z_ = .agg #[.bool d2, .int .i64 v2, .slice A3 m3 c3]),
                    (fun z_ _ => z_ = .int .i64 s),
                    (fun z_ _ => z_ = .bool true)
                  ] (by kernel_rfl) (by kernel_rfl) (by kernel_rfl) (by decide) ⟨dstab_eq, dstab_eq, dstab_eq, dstab_eq, dstab_eq, dstab_eq, dstab_eq, dstab_eq, dstab_eq, dstab_eq, trivial⟩ ?steps ?fin
                case steps =>
                  refine ⟨?_, ?_, ?_, ?_, ?_, ?_, ?_, ?_, ?_, ?_, trivial⟩
                  · intro vs g w2 hI hF hR K hK
                    simp only [Facts, fill, Act.put, z1, z2, z3, z4, z5, Nat.reduceAdd] at hF hR hK ⊢
                    go_simp
                    exact hK _ () _ hI (Below.refl _ _) rfl
                  · intro vs g w2 hI hF hR K hK
                    simp only [Facts, fill, Act.put, z1, z2, z3, z4, z5, Nat.reduceAdd] at hF hR hK ⊢
                    obtain ⟨r0, -⟩ := hR
                    generalize vs 0 = x0 at *
                    subst r0
                    have k0 := (hI.cell (lt_of_cell k4)).trans k4
                    go_simp
                    exact hK _ () _ hI (Below.refl _ _) rfl
                  · intro vs g w2 hI hF hR K hK
                    simp only [Facts, fill, Act.put, z1, z2, z3, z4, z5, Nat.reduceAdd] at hF hR hK ⊢
                    go_simp
                    exact hK _ () _ hI (Below.refl _ _) rfl
                  · intro vs g w2 hI hF hR K hK
                    simp only [Facts, fill, Act.put, z1, z2, z3, z4, z5, Nat.reduceAdd] at hF hR hK ⊢
                    obtain ⟨r1, r2, -⟩ := hR
                    generalize vs 1 = x1, vs 2 = x2 at *
                    subst r1 r2
                    go_simp
                    exact hK _ () _ hI (Below.refl _ _) rfl
                  · intro vs g w2 hI hF hR K hK
                    simp only [Facts, fill, Act.put, z1, z2, z3, z4, z5, Nat.reduceAdd] at hF hR hK ⊢
                    obtain ⟨r3, -⟩ := hR
                    generalize vs 3 = x3 at *
                    subst r3
                    go_simp
                    exact hK _ () _ hI (Below.refl _ _) rfl
                  · intro vs g w2 hI hF hR K hK
                    simp only [Facts, fill, Act.put, z1, z2, z3, z4, z5, Nat.reduceAdd] at hF hR hK ⊢
                    obtain ⟨r4, -⟩ := hR
                    generalize vs 4 = x4 at *
                    subst r4
                    have k0 := (hI.cell (lt_of_cell c2)).trans c2
                    go_simp
                    exact hK _ () _ hI (Below.refl _ _) rfl
                  · intro vs g w2 hI hF hR K hK
                    simp only [Facts, fill, Act.put, z1, z2, z3, z4, z5, Nat.reduceAdd] at hF hR hK ⊢
                    obtain ⟨r5, -⟩ := hR
                    generalize vs 5 = x5 at *
                    subst r5
                    go_simp
                    exact hK _ () _ hI (Below.refl _ _) rfl
                  · intro vs g w2 hI hF hR K hK
                    simp only [Facts, fill, Act.put, z1, z2, z3, z4, z5, Nat.reduceAdd] at hF hR hK ⊢
                    have k0 := (hI.cell (lt_of_cell i0)).trans i0
                    have k1 := (hI.cell (lt_of_cell i1)).trans i1
                    have k2 := (hI.cell (lt_of_cell i2)).trans i2
                    go_simp
                    exact hK _ () _ hI (Below.refl _ _) rfl
                  · intro vs g w2 hI hF hR K hK
                    simp only [Facts, fill, Act.put, z1, z2, z3, z4, z5, Nat.reduceAdd] at hF hR hK ⊢
                    obtain ⟨r7, -⟩ := hR
                    generalize vs 7 = x7 at *
                    subst r7
                    go_simp
                    refine (fenceSize_c d2 v2 (.slice A3 m3 c3) s _ HSv.out HS.out).mono ?_
                    rintro e w3 ⟨rfl, hb⟩
                    exact hK _ () _ (hI.trans (hb.mono hI.size)) hb rfl
                  · intro vs g w2 hI hF hR K hK
                    simp only [Facts, fill, Act.put, z1, z2, z3, z4, z5, Nat.reduceAdd] at hF hR hK ⊢
                    obtain ⟨r6, r8, -⟩ := hR
                    generalize vs 6 = x6, vs 8 = x8 at *
                    subst r6 r8
                    have hd := hne
                    go_simp
                    exact hK _ () _ hI (Below.refl _ _) rfl
                case fin =>
                  intro vs w2 hI hR
                  have r9 := hR 9 (by decide)
                  simp only [fill, Act.put, z1, z2, z3, z4, z5] at r9 ⊢
                  clear hR
                  generalize vs 9 = x9 at *
                  subst r9
                  refine NoPanic.normal ?_
                  have hbf := hb3.trans (hI.mono hb3.size)
                  go_wp2
                  go_ret
                  exact ⟨by rw [HX.out]; rfl, hbw1.trans (hbf.mono hbw1.size)⟩
            · have hke : k = rs.length := by omega
              subst hke
              have HX := Lib.hid (show r = true by rw [← HC.out]; exact (lens_to HLEN.out).2 HTO.out)
              have hrnk : ¬ ((rs.length : Int) < hn) := by have := HHN.out; have := HLEN.out; omega
              obtain ⟨L, hL⟩ : ∃ L, L = rs.length := ⟨_, rfl⟩
              rw [← hL] at hrnk ⊢
              clear hL
              go_wp2
              go_ret
              exact ⟨by rw [HX.out]; rfl, hbw1.trans (hbr.mono hbw1.size)⟩
      · have HX := Lib.hid (show r = false by
          rw [← HE.out]
          unfold lenOk
          rw [decide_eq_false (fun h => hc3 (by have h2 := h.2.2; rw [HNQ.out] at h2; exact h2)), Bool.false_and])
        have d1 : ((rn : Int) != hn) = false := by rw [bne_eq_false_iff_eq, hc1]
        have d2 : ((pn : Int) != np) = false := by rw [bne_eq_false_iff_eq]; exact hc2
        have d3 : ((qn : Int) != pts) = true := by rw [bne_iff_ne]; exact hc3
        clear hc1 hc2 hc3
        refine dir_plain (by kernel_rfl) 23 [[], [(8, 0)], [(9, 1)], [], [(11, 3)], [(12, 4)], [(10, 2), (13, 5)], [(14, 6)], [(15, 7)], [(15, 7), (16, 8)], [(15, 7), (17, 9)], [(15, 7)], [(15, 7), (19, 11)], [(15, 7), (18, 10), (20, 12)], [(15, 7), (21, 13)], [(22, 14)], [(23, 15)], [(23, 15), (24, 16)], [(23, 15), (25, 17)], [(23, 15)], [(23, 15), (27, 19)], [(23, 15), (26, 18), (28, 20)], [(23, 15), (29, 21)]] [(8, 0), (9, 1), (10, 2), (11, 3), (12, 4), (13, 5), (14, 6), (15, 7), (16, 8), (17, 9), (18, 10), (19, 11), (20, 12), (21, 13), (22, 14), (23, 15), (24, 16), (25, 17), (26, 18), (27, 19), (28, 20), (29, 21), (30, 22)] [
            (fun z_ _ => z_ = .pointer (some ⟨B, 4, none⟩)),
            (fun z_ _ => z_ = .slice RA rn rc),
            (fun z_ _ => z_ = .int .i64 rn),
            (fun z_ _ => z_ = .pointer (some ⟨bh, 2, none⟩)),
            (fun z_ _ => z_ = .slice hA hn hc),
            (fun z_ _ => z_ = .int .i64 hn),
            (fun z_ _ => z_ = .bool false),
            (fun z_ _ => z_ = .bool false),
            (fun z_ _ => z_ = .pointer (some ⟨B, 5, none⟩)),
            (fun z_ _ => z_ = .slice PA pn pc),
            (fun z_ _ => z_ = .int .i64 pn),
            (fun z_ _ => z_ = .agg #[.int .i64 op, .int .i64 vx, .slice hA hn hc, .int .i64 pts]),
            (fun z_ _ => z_ = .int .i64 np),
            (fun z_ _ => z_ = .bool false),
            (fun z_ _ => z_ = .bool false),
            (fun z_ _ => z_ = .bool false),
            (fun z_ _ => z_ = .pointer (some ⟨B, 6, none⟩)),
            (fun z_ _ => z_ = .slice QA qn qc),
            (fun z_ _ => z_ = .int .i64 qn),
            (fun z_ _ => z_ = .pointer (some ⟨bh, 3, none⟩)),
            (fun z_ _ => z_ = .int .i64 pts),
            (fun z_ _ => z_ = .bool true),
            (fun z_ _ => z_ = .bool true)
          ] (by kernel_rfl) (by kernel_rfl) (by kernel_rfl) (by decide) ⟨dstab_eq, dstab_eq, dstab_eq, dstab_eq, dstab_eq, dstab_eq, dstab_eq, dstab_eq, dstab_eq, dstab_eq, dstab_eq, dstab_eq, dstab_eq, dstab_eq, dstab_eq, dstab_eq, dstab_eq, dstab_eq, dstab_eq, dstab_eq, dstab_eq, dstab_eq, dstab_eq, trivial⟩ ?steps ?fin
        case steps =>
          refine ⟨?_, ?_, ?_, ?_, ?_, ?_, ?_, ?_, ?_, ?_, ?_, ?_, ?_, ?_, ?_, ?_, ?_, ?_, ?_, ?_, ?_, ?_, ?_, trivial⟩
          · intro vs g w2 hI hF hR K hK
            simp only [Facts, fill, Act.put, z1, z2, z3, z4, z5, Nat.reduceAdd] at hF hR hK ⊢
            go_simp
            exact hK _ () _ hI (Below.refl _ _) rfl
          · intro vs g w2 hI hF hR K hK
            simp only [Facts, fill, Act.put, z1, z2, z3, z4, z5, Nat.reduceAdd] at hF hR hK ⊢
            obtain ⟨r0, -⟩ := hR
            generalize vs 0 = x0 at *
            subst r0
            have k0 := (hI.cell (lt_of_cell k4)).trans k4
            go_simp
            exact hK _ () _ hI (Below.refl _ _) rfl
          · intro vs g w2 hI hF hR K hK
            simp only [Facts, fill, Act.put, z1, z2, z3, z4, z5, Nat.reduceAdd] at hF hR hK ⊢
            obtain ⟨r1, -⟩ := hR
            generalize vs 1 = x1 at *
            subst r1
            go_simp
            exact hK _ () _ hI (Below.refl _ _) rfl
          · intro vs g w2 hI hF hR K hK
            simp only [Facts, fill, Act.put, z1, z2, z3, z4, z5, Nat.reduceAdd] at hF hR hK ⊢
            go_simp
            exact hK _ () _ hI (Below.refl _ _) rfl
          · intro vs g w2 hI hF hR K hK
            simp only [Facts, fill, Act.put, z1, z2, z3, z4, z5, Nat.reduceAdd] at hF hR hK ⊢
            obtain ⟨r3, -⟩ := hR
            generalize vs 3 = x3 at *
            subst r3
            have k0 := (hI.cell (lt_of_cell j2)).trans j2
            go_simp
            exact hK _ () _ hI (Below.refl _ _) rfl
          · intro vs g w2 hI hF hR K hK
            simp only [Facts, fill, Act.put, z1, z2, z3, z4, z5, Nat.reduceAdd] at hF hR hK ⊢
            obtain ⟨r4, -⟩ := hR
            generalize vs 4 = x4 at *
            subst r4
            go_simp
            exact hK _ () _ hI (Below.refl _ _) rfl
          · intro vs g w2 hI hF hR K hK
            simp only [Facts, fill, Act.put, z1, z2, z3, z4, z5, Nat.reduceAdd] at hF hR hK ⊢
            obtain ⟨r2, r5, -⟩ := hR
            generalize vs 2 = x2, vs 5 = x5 at *
            subst r2 r5
            have hd := d1
            go_simp
            exact hK _ () _ hI (Below.refl _ _) rfl
          · intro vs g w2 hI hF hR K hK
            simp only [Facts, fill, Act.put, z1, z2, z3, z4, z5, Nat.reduceAdd] at hF hR hK ⊢
            obtain ⟨r6, -⟩ := hR
            generalize vs 6 = x6 at *
            subst r6
            go_simp
            exact hK _ () _ hI (Below.refl _ _) rfl
          · intro vs g w2 hI hF hR K hK
            simp only [Facts, fill, Act.put, z1, z2, z3, z4, z5, Nat.reduceAdd] at hF hR hK ⊢
            obtain ⟨r7, -⟩ := hR
            generalize vs 7 = x7 at *
            subst r7
            go_simp
            exact hK _ () _ hI (Below.refl _ _) rfl
          · intro vs g w2 hI hF hR K hK
            simp only [Facts, fill, Act.put, z1, z2, z3, z4, z5, Nat.reduceAdd] at hF hR hK ⊢
            obtain ⟨r7, r8, -⟩ := hR
            generalize vs 7 = x7, vs 8 = x8 at *
            subst r7 r8
            have k0 := (hI.cell (lt_of_cell k5)).trans k5
            go_simp
            exact hK _ () _ hI (Below.refl _ _) rfl
          · intro vs g w2 hI hF hR K hK
            simp only [Facts, fill, Act.put, z1, z2, z3, z4, z5, Nat.reduceAdd] at hF hR hK ⊢
            obtain ⟨r7, r9, -⟩ := hR
            generalize vs 7 = x7, vs 9 = x9 at *
            subst r7 r9
            go_simp
            exact hK _ () _ hI (Below.refl _ _) rfl
          · intro vs g w2 hI hF hR K hK
            simp only [Facts, fill, Act.put, z1, z2, z3, z4, z5, Nat.reduceAdd] at hF hR hK ⊢
            obtain ⟨r7, -⟩ := hR
            generalize vs 7 = x7 at *
            subst r7
            have k0 := (hI.cell (lt_of_cell j0)).trans j0
            have k1 := (hI.cell (lt_of_cell j1)).trans j1
            have k2 := (hI.cell (lt_of_cell j2)).trans j2
            have k3 := (hI.cell (lt_of_cell j3)).trans j3
            go_simp
            exact hK _ () _ hI (Below.refl _ _) rfl
          · intro vs g w2 hI hF hR K hK
            simp only [Facts, fill, Act.put, z1, z2, z3, z4, z5, Nat.reduceAdd] at hF hR hK ⊢
            obtain ⟨r7, r11, -⟩ := hR
            generalize vs 7 = x7, vs 11 = x11 at *
            subst r7 r11
            go_simp
            refine (pointsOf_any op vx pts (.slice hA hn hc) (hrs.map rgK) np _ (HWT.out.below hI) HK.out HNP.out).mono ?_
            rintro e w3 ⟨rfl, hb⟩
            exact hK _ () _ (hI.trans (hb.mono hI.size)) hb rfl
          · intro vs g w2 hI hF hR K hK
            simp only [Facts, fill, Act.put, z1, z2, z3, z4, z5, Nat.reduceAdd] at hF hR hK ⊢
            obtain ⟨r7, r10, r12, -⟩ := hR
            generalize vs 7 = x7, vs 10 = x10, vs 12 = x12 at *
            subst r7 r10 r12
            have hd := d2
            go_simp
            exact hK _ () _ hI (Below.refl _ _) rfl
          · intro vs g w2 hI hF hR K hK
            simp only [Facts, fill, Act.put, z1, z2, z3, z4, z5, Nat.reduceAdd] at hF hR hK ⊢
            obtain ⟨r7, r13, -⟩ := hR
            generalize vs 7 = x7, vs 13 = x13 at *
            subst r7 r13
            go_simp
            exact hK _ () _ hI (Below.refl _ _) rfl
          · intro vs g w2 hI hF hR K hK
            simp only [Facts, fill, Act.put, z1, z2, z3, z4, z5, Nat.reduceAdd] at hF hR hK ⊢
            obtain ⟨r14, -⟩ := hR
            generalize vs 14 = x14 at *
            subst r14
            go_simp
            exact hK _ () _ hI (Below.refl _ _) rfl
          · intro vs g w2 hI hF hR K hK
            simp only [Facts, fill, Act.put, z1, z2, z3, z4, z5, Nat.reduceAdd] at hF hR hK ⊢
            obtain ⟨r15, -⟩ := hR
            generalize vs 15 = x15 at *
            subst r15
            go_simp
            exact hK _ () _ hI (Below.refl _ _) rfl
          · intro vs g w2 hI hF hR K hK
            simp only [Facts, fill, Act.put, z1, z2, z3, z4, z5, Nat.reduceAdd] at hF hR hK ⊢
            obtain ⟨r15, r16, -⟩ := hR
            generalize vs 15 = x15, vs 16 = x16 at *
            subst r15 r16
            have k0 := (hI.cell (lt_of_cell k6)).trans k6
            go_simp
            exact hK _ () _ hI (Below.refl _ _) rfl
          · intro vs g w2 hI hF hR K hK
            simp only [Facts, fill, Act.put, z1, z2, z3, z4, z5, Nat.reduceAdd] at hF hR hK ⊢
            obtain ⟨r15, r17, -⟩ := hR
            generalize vs 15 = x15, vs 17 = x17 at *
            subst r15 r17
            go_simp
            exact hK _ () _ hI (Below.refl _ _) rfl
          · intro vs g w2 hI hF hR K hK
            simp only [Facts, fill, Act.put, z1, z2, z3, z4, z5, Nat.reduceAdd] at hF hR hK ⊢
            obtain ⟨r15, -⟩ := hR
            generalize vs 15 = x15 at *
            subst r15
            go_simp
            exact hK _ () _ hI (Below.refl _ _) rfl
          · intro vs g w2 hI hF hR K hK
            simp only [Facts, fill, Act.put, z1, z2, z3, z4, z5, Nat.reduceAdd] at hF hR hK ⊢
            obtain ⟨r15, r19, -⟩ := hR
            generalize vs 15 = x15, vs 19 = x19 at *
            subst r15 r19
            have k0 := (hI.cell (lt_of_cell j3)).trans j3
            go_simp
            exact hK _ () _ hI (Below.refl _ _) rfl
          · intro vs g w2 hI hF hR K hK
            simp only [Facts, fill, Act.put, z1, z2, z3, z4, z5, Nat.reduceAdd] at hF hR hK ⊢
            obtain ⟨r15, r18, r20, -⟩ := hR
            generalize vs 15 = x15, vs 18 = x18, vs 20 = x20 at *
            subst r15 r18 r20
            have hd := d3
            go_simp
            exact hK _ () _ hI (Below.refl _ _) rfl
          · intro vs g w2 hI hF hR K hK
            simp only [Facts, fill, Act.put, z1, z2, z3, z4, z5, Nat.reduceAdd] at hF hR hK ⊢
            obtain ⟨r15, r21, -⟩ := hR
            generalize vs 15 = x15, vs 21 = x21 at *
            subst r15 r21
            go_simp
            exact hK _ () _ hI (Below.refl _ _) rfl
        case fin =>
          intro vs w2 hI hR
          have r22 := hR 22 (by decide)
          simp only [fill, Act.put, z1, z2, z3, z4, z5] at r22 ⊢
          clear hR
          generalize vs 22 = x22 at *
          subst r22
          refine NoPanic.normal ?_
          go_wp2
          go_ret
          exact ⟨by rw [HX.out]; rfl, hbw1.trans (hI.mono hbw1.size)⟩
    · have HX := Lib.hid (show r = false by
        rw [← HE.out]
        unfold lenOk
        rw [decide_eq_false (fun h => hc2 (by have h2 := h.2.1; rw [HNP.out] at h2; exact h2)), Bool.false_and])
      have d1 : ((rn : Int) != hn) = false := by rw [bne_eq_false_iff_eq, hc1]
      have d2 : ((pn : Int) != np) = true := by rw [bne_iff_ne]; exact hc2
      clear hc1 hc2
      refine dir_plain (by kernel_rfl) 23 [[], [(8, 0)], [(9, 1)], [], [(11, 3)], [(12, 4)], [(10, 2), (13, 5)], [(14, 6)], [(15, 7)], [(15, 7), (16, 8)], [(15, 7), (17, 9)], [(15, 7)], [(15, 7), (19, 11)], [(15, 7), (18, 10), (20, 12)], [(15, 7), (21, 13)], [(22, 14)], [(23, 15)], [(23, 15), (24, 16)], [(23, 15), (25, 17)], [(23, 15)], [(23, 15), (27, 19)], [(23, 15), (26, 18), (28, 20)], [(23, 15), (29, 21)]] [(8, 0), (9, 1), (10, 2), (11, 3), (12, 4), (13, 5), (14, 6), (15, 7), (16, 8), (17, 9), (18, 10), (19, 11), (20, 12), (21, 13), (22, 14), (23, 15), (24, 16), (25, 17), (26, 18), (27, 19), (28, 20), (29, 21), (30, 22)] [
          (fun z_ _ => z_ = .pointer (some ⟨B, 4, none⟩)),
          (fun z_ _ => z_ = .slice RA rn rc),
          (fun z_ _ => z_ = .int .i64 rn),
          (fun z_ _ => z_ = .pointer (some ⟨bh, 2, none⟩)),
          (fun z_ _ => z_ = .slice hA hn hc),
          (fun z_ _ => z_ = .int .i64 hn),
          (fun z_ _ => z_ = .bool false),
          (fun z_ _ => z_ = .bool false),
          (fun z_ _ => z_ = .pointer (some ⟨B, 5, none⟩)),
          (fun z_ _ => z_ = .slice PA pn pc),
          (fun z_ _ => z_ = .int .i64 pn),
          (fun z_ _ => z_ = .agg #[.int .i64 op, .int .i64 vx, .slice hA hn hc, .int .i64 pts]),
          (fun z_ _ => z_ = .int .i64 np),
          (fun z_ _ => z_ = .bool true),
          (fun z_ _ => z_ = .bool true),
          (fun z_ _ => z_ = .bool true),
          (fun z_ _ => z_ = undef),
          (fun z_ _ => z_ = undef),
          (fun z_ _ => z_ = undef),
          (fun z_ _ => z_ = undef),
          (fun z_ _ => z_ = undef),
          (fun z_ _ => z_ = undef),
          (fun z_ _ => z_ = .bool true)
        ] (by kernel_rfl) (by kernel_rfl) (by kernel_rfl) (by decide) ⟨dstab_eq, dstab_eq, dstab_eq, dstab_eq, dstab_eq, dstab_eq, dstab_eq, dstab_eq, dstab_eq, dstab_eq, dstab_eq, dstab_eq, dstab_eq, dstab_eq, dstab_eq, dstab_eq, dstab_eq, dstab_eq, dstab_eq, dstab_eq, dstab_eq, dstab_eq, dstab_eq, trivial⟩ ?steps ?fin
      case steps =>
        refine ⟨?_, ?_, ?_, ?_, ?_, ?_, ?_, ?_, ?_, ?_, ?_, ?_, ?_, ?_, ?_, ?_, ?_, ?_, ?_, ?_, ?_, ?_, ?_, trivial⟩
        · intro vs g w2 hI hF hR K hK
          simp only [Facts, fill, Act.put, z1, z2, z3, z4, z5, Nat.reduceAdd] at hF hR hK ⊢
          go_simp
          exact hK _ () _ hI (Below.refl _ _) rfl
        · intro vs g w2 hI hF hR K hK
          simp only [Facts, fill, Act.put, z1, z2, z3, z4, z5, Nat.reduceAdd] at hF hR hK ⊢
          obtain ⟨r0, -⟩ := hR
          generalize vs 0 = x0 at *
          subst r0
          have k0 := (hI.cell (lt_of_cell k4)).trans k4
          go_simp
          exact hK _ () _ hI (Below.refl _ _) rfl
        · intro vs g w2 hI hF hR K hK
          simp only [Facts, fill, Act.put, z1, z2, z3, z4, z5, Nat.reduceAdd] at hF hR hK ⊢
          obtain ⟨r1, -⟩ := hR
          generalize vs 1 = x1 at *
          subst r1
          go_simp
          exact hK _ () _ hI (Below.refl _ _) rfl
        · intro vs g w2 hI hF hR K hK
          simp only [Facts, fill, Act.put, z1, z2, z3, z4, z5, Nat.reduceAdd] at hF hR hK ⊢
          go_simp
          exact hK _ () _ hI (Below.refl _ _) rfl
        · intro vs g w2 hI hF hR K hK
          simp only [Facts, fill, Act.put, z1, z2, z3, z4, z5, Nat.reduceAdd] at hF hR hK ⊢
          obtain ⟨r3, -⟩ := hR
          generalize vs 3 = x3 at *
          subst r3
          have k0 := (hI.cell (lt_of_cell j2)).trans j2
          go_simp
          exact hK _ () _ hI (Below.refl _ _) rfl
        · intro vs g w2 hI hF hR K hK
          simp only [Facts, fill, Act.put, z1, z2, z3, z4, z5, Nat.reduceAdd] at hF hR hK ⊢
          obtain ⟨r4, -⟩ := hR
          generalize vs 4 = x4 at *
          subst r4
          go_simp
          exact hK _ () _ hI (Below.refl _ _) rfl
        · intro vs g w2 hI hF hR K hK
          simp only [Facts, fill, Act.put, z1, z2, z3, z4, z5, Nat.reduceAdd] at hF hR hK ⊢
          obtain ⟨r2, r5, -⟩ := hR
          generalize vs 2 = x2, vs 5 = x5 at *
          subst r2 r5
          have hd := d1
          go_simp
          exact hK _ () _ hI (Below.refl _ _) rfl
        · intro vs g w2 hI hF hR K hK
          simp only [Facts, fill, Act.put, z1, z2, z3, z4, z5, Nat.reduceAdd] at hF hR hK ⊢
          obtain ⟨r6, -⟩ := hR
          generalize vs 6 = x6 at *
          subst r6
          go_simp
          exact hK _ () _ hI (Below.refl _ _) rfl
        · intro vs g w2 hI hF hR K hK
          simp only [Facts, fill, Act.put, z1, z2, z3, z4, z5, Nat.reduceAdd] at hF hR hK ⊢
          obtain ⟨r7, -⟩ := hR
          generalize vs 7 = x7 at *
          subst r7
          go_simp
          exact hK _ () _ hI (Below.refl _ _) rfl
        · intro vs g w2 hI hF hR K hK
          simp only [Facts, fill, Act.put, z1, z2, z3, z4, z5, Nat.reduceAdd] at hF hR hK ⊢
          obtain ⟨r7, r8, -⟩ := hR
          generalize vs 7 = x7, vs 8 = x8 at *
          subst r7 r8
          have k0 := (hI.cell (lt_of_cell k5)).trans k5
          go_simp
          exact hK _ () _ hI (Below.refl _ _) rfl
        · intro vs g w2 hI hF hR K hK
          simp only [Facts, fill, Act.put, z1, z2, z3, z4, z5, Nat.reduceAdd] at hF hR hK ⊢
          obtain ⟨r7, r9, -⟩ := hR
          generalize vs 7 = x7, vs 9 = x9 at *
          subst r7 r9
          go_simp
          exact hK _ () _ hI (Below.refl _ _) rfl
        · intro vs g w2 hI hF hR K hK
          simp only [Facts, fill, Act.put, z1, z2, z3, z4, z5, Nat.reduceAdd] at hF hR hK ⊢
          obtain ⟨r7, -⟩ := hR
          generalize vs 7 = x7 at *
          subst r7
          have k0 := (hI.cell (lt_of_cell j0)).trans j0
          have k1 := (hI.cell (lt_of_cell j1)).trans j1
          have k2 := (hI.cell (lt_of_cell j2)).trans j2
          have k3 := (hI.cell (lt_of_cell j3)).trans j3
          go_simp
          exact hK _ () _ hI (Below.refl _ _) rfl
        · intro vs g w2 hI hF hR K hK
          simp only [Facts, fill, Act.put, z1, z2, z3, z4, z5, Nat.reduceAdd] at hF hR hK ⊢
          obtain ⟨r7, r11, -⟩ := hR
          generalize vs 7 = x7, vs 11 = x11 at *
          subst r7 r11
          go_simp
          refine (pointsOf_any op vx pts (.slice hA hn hc) (hrs.map rgK) np _ (HWT.out.below hI) HK.out HNP.out).mono ?_
          rintro e w3 ⟨rfl, hb⟩
          exact hK _ () _ (hI.trans (hb.mono hI.size)) hb rfl
        · intro vs g w2 hI hF hR K hK
          simp only [Facts, fill, Act.put, z1, z2, z3, z4, z5, Nat.reduceAdd] at hF hR hK ⊢
          obtain ⟨r7, r10, r12, -⟩ := hR
          generalize vs 7 = x7, vs 10 = x10, vs 12 = x12 at *
          subst r7 r10 r12
          have hd := d2
          go_simp
          exact hK _ () _ hI (Below.refl _ _) rfl
        · intro vs g w2 hI hF hR K hK
          simp only [Facts, fill, Act.put, z1, z2, z3, z4, z5, Nat.reduceAdd] at hF hR hK ⊢
          obtain ⟨r7, r13, -⟩ := hR
          generalize vs 7 = x7, vs 13 = x13 at *
          subst r7 r13
          go_simp
          exact hK _ () _ hI (Below.refl _ _) rfl
        · intro vs g w2 hI hF hR K hK
          simp only [Facts, fill, Act.put, z1, z2, z3, z4, z5, Nat.reduceAdd] at hF hR hK ⊢
          obtain ⟨r14, -⟩ := hR
          generalize vs 14 = x14 at *
          subst r14
          go_simp
          exact hK _ () _ hI (Below.refl _ _) rfl
        · intro vs g w2 hI hF hR K hK
          simp only [Facts, fill, Act.put, z1, z2, z3, z4, z5, Nat.reduceAdd] at hF hR hK ⊢
          obtain ⟨r15, -⟩ := hR
          generalize vs 15 = x15 at *
          subst r15
          go_simp
          exact hK _ () _ hI (Below.refl _ _) rfl
        · intro vs g w2 hI hF hR K hK
          simp only [Facts, fill, Act.put, z1, z2, z3, z4, z5, Nat.reduceAdd] at hF hR hK ⊢
          obtain ⟨r15, r16, -⟩ := hR
          generalize vs 15 = x15, vs 16 = x16 at *
          subst r15 r16
          go_simp
          exact hK _ () _ hI (Below.refl _ _) rfl
        · intro vs g w2 hI hF hR K hK
          simp only [Facts, fill, Act.put, z1, z2, z3, z4, z5, Nat.reduceAdd] at hF hR hK ⊢
          obtain ⟨r15, r17, -⟩ := hR
          generalize vs 15 = x15, vs 17 = x17 at *
          subst r15 r17
          go_simp
          exact hK _ () _ hI (Below.refl _ _) rfl
        · intro vs g w2 hI hF hR K hK
          simp only [Facts, fill, Act.put, z1, z2, z3, z4, z5, Nat.reduceAdd] at hF hR hK ⊢
          obtain ⟨r15, -⟩ := hR
          generalize vs 15 = x15 at *
          subst r15
          go_simp
          exact hK _ () _ hI (Below.refl _ _) rfl
        · intro vs g w2 hI hF hR K hK
          simp only [Facts, fill, Act.put, z1, z2, z3, z4, z5, Nat.reduceAdd] at hF hR hK ⊢
          obtain ⟨r15, r19, -⟩ := hR
          generalize vs 15 = x15, vs 19 = x19 at *
          subst r15 r19
          go_simp
          exact hK _ () _ hI (Below.refl _ _) rfl
        · intro vs g w2 hI hF hR K hK
          simp only [Facts, fill, Act.put, z1, z2, z3, z4, z5, Nat.reduceAdd] at hF hR hK ⊢
          obtain ⟨r15, r18, r20, -⟩ := hR
          generalize vs 15 = x15, vs 18 = x18, vs 20 = x20 at *
          subst r15 r18 r20
          go_simp
          exact hK _ () _ hI (Below.refl _ _) rfl
        · intro vs g w2 hI hF hR K hK
          simp only [Facts, fill, Act.put, z1, z2, z3, z4, z5, Nat.reduceAdd] at hF hR hK ⊢
          obtain ⟨r15, r21, -⟩ := hR
          generalize vs 15 = x15, vs 21 = x21 at *
          subst r15 r21
          go_simp
          exact hK _ () _ hI (Below.refl _ _) rfl
      case fin =>
        intro vs w2 hI hR
        have r22 := hR 22 (by decide)
        simp only [fill, Act.put, z1, z2, z3, z4, z5] at r22 ⊢
        clear hR
        generalize vs 22 = x22 at *
        subst r22
        refine NoPanic.normal ?_
        go_wp2
        go_ret
        exact ⟨by rw [HX.out]; rfl, hbw1.trans (hI.mono hbw1.size)⟩
  · have HX := Lib.hid (show r = false by
      rw [← HE.out]
      unfold lenOk
      rw [decide_eq_false (fun h => hc1 (by have h2 := h.1; simp only [List.length_map] at h2; rw [HRN.out, HHN.out]; exact h2)), Bool.false_and])
    have d1 : ((rn : Int) != hn) = true := by rw [bne_iff_ne]; omega
    clear hc1
    refine dir_plain (by kernel_rfl) 23 [[], [(8, 0)], [(9, 1)], [], [(11, 3)], [(12, 4)], [(10, 2), (13, 5)], [(14, 6)], [(15, 7)], [(15, 7), (16, 8)], [(15, 7), (17, 9)], [(15, 7)], [(15, 7), (19, 11)], [(15, 7), (18, 10), (20, 12)], [(15, 7), (21, 13)], [(22, 14)], [(23, 15)], [(23, 15), (24, 16)], [(23, 15), (25, 17)], [(23, 15)], [(23, 15), (27, 19)], [(23, 15), (26, 18), (28, 20)], [(23, 15), (29, 21)]] [(8, 0), (9, 1), (10, 2), (11, 3), (12, 4), (13, 5), (14, 6), (15, 7), (16, 8), (17, 9), (18, 10), (19, 11), (20, 12), (21, 13), (22, 14), (23, 15), (24, 16), (25, 17), (26, 18), (27, 19), (28, 20), (29, 21), (30, 22)] [
        (fun z_ _ => z_ = .pointer (some ⟨B, 4, none⟩)),
        (fun z_ _ => z_ = .slice RA rn rc),
        (fun z_ _ => z_ = .int .i64 rn),
        (fun z_ _ => z_ = .pointer (some ⟨bh, 2, none⟩)),
        (fun z_ _ => z_ = .slice hA hn hc),
        (fun z_ _ => z_ = .int .i64 hn),
        (fun z_ _ => z_ = .bool true),
        (fun z_ _ => z_ = .bool true),
        (fun z_ _ => z_ = undef),
        (fun z_ _ => z_ = undef),
        (fun z_ _ => z_ = undef),
        (fun z_ _ => z_ = undef),
        (fun z_ _ => z_ = undef),
        (fun z_ _ => z_ = undef),
        (fun z_ _ => z_ = .bool true),
        (fun z_ _ => z_ = .bool true),
        (fun z_ _ => z_ = undef),
        (fun z_ _ => z_ = undef),
        (fun z_ _ => z_ = undef),
        (fun z_ _ => z_ = undef),
        (fun z_ _ => z_ = undef),
        (fun z_ _ => z_ = undef),
        (fun z_ _ => z_ = .bool true)
      ] (by kernel_rfl) (by kernel_rfl) (by kernel_rfl) (by decide) ⟨dstab_eq, dstab_eq, dstab_eq, dstab_eq, dstab_eq, dstab_eq, dstab_eq, dstab_eq, dstab_eq, dstab_eq, dstab_eq, dstab_eq, dstab_eq, dstab_eq, dstab_eq, dstab_eq, dstab_eq, dstab_eq, dstab_eq, dstab_eq, dstab_eq, dstab_eq, dstab_eq, trivial⟩ ?steps ?fin
    case steps =>
      refine ⟨?_, ?_, ?_, ?_, ?_, ?_, ?_, ?_, ?_, ?_, ?_, ?_, ?_, ?_, ?_, ?_, ?_, ?_, ?_, ?_, ?_, ?_, ?_, trivial⟩
      · intro vs g w2 hI hF hR K hK
        simp only [Facts, fill, Act.put, z1, z2, z3, z4, z5, Nat.reduceAdd] at hF hR hK ⊢
        go_simp
        exact hK _ () _ hI (Below.refl _ _) rfl
      · intro vs g w2 hI hF hR K hK
        simp only [Facts, fill, Act.put, z1, z2, z3, z4, z5, Nat.reduceAdd] at hF hR hK ⊢
        obtain ⟨r0, -⟩ := hR
        generalize vs 0 = x0 at *
        subst r0
        have k0 := (hI.cell (lt_of_cell k4)).trans k4
        go_simp
        exact hK _ () _ hI (Below.refl _ _) rfl
      · intro vs g w2 hI hF hR K hK
        simp only [Facts, fill, Act.put, z1, z2, z3, z4, z5, Nat.reduceAdd] at hF hR hK ⊢
        obtain ⟨r1, -⟩ := hR
        generalize vs 1 = x1 at *
        subst r1
        go_simp
        exact hK _ () _ hI (Below.refl _ _) rfl
      · intro vs g w2 hI hF hR K hK
        simp only [Facts, fill, Act.put, z1, z2, z3, z4, z5, Nat.reduceAdd] at hF hR hK ⊢
        go_simp
        exact hK _ () _ hI (Below.refl _ _) rfl
      · intro vs g w2 hI hF hR K hK
        simp only [Facts, fill, Act.put, z1, z2, z3, z4, z5, Nat.reduceAdd] at hF hR hK ⊢
        obtain ⟨r3, -⟩ := hR
        generalize vs 3 = x3 at *
        subst r3
        have k0 := (hI.cell (lt_of_cell j2)).trans j2
        go_simp
        exact hK _ () _ hI (Below.refl _ _) rfl
      · intro vs g w2 hI hF hR K hK
        simp only [Facts, fill, Act.put, z1, z2, z3, z4, z5, Nat.reduceAdd] at hF hR hK ⊢
        obtain ⟨r4, -⟩ := hR
        generalize vs 4 = x4 at *
        subst r4
        go_simp
        exact hK _ () _ hI (Below.refl _ _) rfl
      · intro vs g w2 hI hF hR K hK
        simp only [Facts, fill, Act.put, z1, z2, z3, z4, z5, Nat.reduceAdd] at hF hR hK ⊢
        obtain ⟨r2, r5, -⟩ := hR
        generalize vs 2 = x2, vs 5 = x5 at *
        subst r2 r5
        have hd := d1
        go_simp
        exact hK _ () _ hI (Below.refl _ _) rfl
      · intro vs g w2 hI hF hR K hK
        simp only [Facts, fill, Act.put, z1, z2, z3, z4, z5, Nat.reduceAdd] at hF hR hK ⊢
        obtain ⟨r6, -⟩ := hR
        generalize vs 6 = x6 at *
        subst r6
        go_simp
        exact hK _ () _ hI (Below.refl _ _) rfl
      · intro vs g w2 hI hF hR K hK
        simp only [Facts, fill, Act.put, z1, z2, z3, z4, z5, Nat.reduceAdd] at hF hR hK ⊢
        obtain ⟨r7, -⟩ := hR
        generalize vs 7 = x7 at *
        subst r7
        go_simp
        exact hK _ () _ hI (Below.refl _ _) rfl
      · intro vs g w2 hI hF hR K hK
        simp only [Facts, fill, Act.put, z1, z2, z3, z4, z5, Nat.reduceAdd] at hF hR hK ⊢
        obtain ⟨r7, r8, -⟩ := hR
        generalize vs 7 = x7, vs 8 = x8 at *
        subst r7 r8
        go_simp
        exact hK _ () _ hI (Below.refl _ _) rfl
      · intro vs g w2 hI hF hR K hK
        simp only [Facts, fill, Act.put, z1, z2, z3, z4, z5, Nat.reduceAdd] at hF hR hK ⊢
        obtain ⟨r7, r9, -⟩ := hR
        generalize vs 7 = x7, vs 9 = x9 at *
        subst r7 r9
        go_simp
        exact hK _ () _ hI (Below.refl _ _) rfl
      · intro vs g w2 hI hF hR K hK
        simp only [Facts, fill, Act.put, z1, z2, z3, z4, z5, Nat.reduceAdd] at hF hR hK ⊢
        obtain ⟨r7, -⟩ := hR
        generalize vs 7 = x7 at *
        subst r7
        go_simp
        exact hK _ () _ hI (Below.refl _ _) rfl
      · intro vs g w2 hI hF hR K hK
        simp only [Facts, fill, Act.put, z1, z2, z3, z4, z5, Nat.reduceAdd] at hF hR hK ⊢
        obtain ⟨r7, r11, -⟩ := hR
        generalize vs 7 = x7, vs 11 = x11 at *
        subst r7 r11
        go_simp
        exact hK _ () _ hI (Below.refl _ _) rfl
      · intro vs g w2 hI hF hR K hK
        simp only [Facts, fill, Act.put, z1, z2, z3, z4, z5, Nat.reduceAdd] at hF hR hK ⊢
        obtain ⟨r7, r10, r12, -⟩ := hR
        generalize vs 7 = x7, vs 10 = x10, vs 12 = x12 at *
        subst r7 r10 r12
        go_simp
        exact hK _ () _ hI (Below.refl _ _) rfl
      · intro vs g w2 hI hF hR K hK
        simp only [Facts, fill, Act.put, z1, z2, z3, z4, z5, Nat.reduceAdd] at hF hR hK ⊢
        obtain ⟨r7, r13, -⟩ := hR
        generalize vs 7 = x7, vs 13 = x13 at *
        subst r7 r13
        go_simp
        exact hK _ () _ hI (Below.refl _ _) rfl
      · intro vs g w2 hI hF hR K hK
        simp only [Facts, fill, Act.put, z1, z2, z3, z4, z5, Nat.reduceAdd] at hF hR hK ⊢
        obtain ⟨r14, -⟩ := hR
        generalize vs 14 = x14 at *
        subst r14
        go_simp
        exact hK _ () _ hI (Below.refl _ _) rfl
      · intro vs g w2 hI hF hR K hK
        simp only [Facts, fill, Act.put, z1, z2, z3, z4, z5, Nat.reduceAdd] at hF hR hK ⊢
        obtain ⟨r15, -⟩ := hR
        generalize vs 15 = x15 at *
        subst r15
        go_simp
        exact hK _ () _ hI (Below.refl _ _) rfl
      · intro vs g w2 hI hF hR K hK
        simp only [Facts, fill, Act.put, z1, z2, z3, z4, z5, Nat.reduceAdd] at hF hR hK ⊢
        obtain ⟨r15, r16, -⟩ := hR
        generalize vs 15 = x15, vs 16 = x16 at *
        subst r15 r16
        go_simp
        exact hK _ () _ hI (Below.refl _ _) rfl
      · intro vs g w2 hI hF hR K hK
        simp only [Facts, fill, Act.put, z1, z2, z3, z4, z5, Nat.reduceAdd] at hF hR hK ⊢
        obtain ⟨r15, r17, -⟩ := hR
        generalize vs 15 = x15, vs 17 = x17 at *
        subst r15 r17
        go_simp
        exact hK _ () _ hI (Below.refl _ _) rfl
      · intro vs g w2 hI hF hR K hK
        simp only [Facts, fill, Act.put, z1, z2, z3, z4, z5, Nat.reduceAdd] at hF hR hK ⊢
        obtain ⟨r15, -⟩ := hR
        generalize vs 15 = x15 at *
        subst r15
        go_simp
        exact hK _ () _ hI (Below.refl _ _) rfl
      · intro vs g w2 hI hF hR K hK
        simp only [Facts, fill, Act.put, z1, z2, z3, z4, z5, Nat.reduceAdd] at hF hR hK ⊢
        obtain ⟨r15, r19, -⟩ := hR
        generalize vs 15 = x15, vs 19 = x19 at *
        subst r15 r19
        go_simp
        exact hK _ () _ hI (Below.refl _ _) rfl
      · intro vs g w2 hI hF hR K hK
        simp only [Facts, fill, Act.put, z1, z2, z3, z4, z5, Nat.reduceAdd] at hF hR hK ⊢
        obtain ⟨r15, r18, r20, -⟩ := hR
        generalize vs 15 = x15, vs 18 = x18, vs 20 = x20 at *
        subst r15 r18 r20
        go_simp
        exact hK _ () _ hI (Below.refl _ _) rfl
      · intro vs g w2 hI hF hR K hK
        simp only [Facts, fill, Act.put, z1, z2, z3, z4, z5, Nat.reduceAdd] at hF hR hK ⊢
        obtain ⟨r15, r21, -⟩ := hR
        generalize vs 15 = x15, vs 21 = x21 at *
        subst r15 r21
        go_simp
        exact hK _ () _ hI (Below.refl _ _) rfl
    case fin =>
      intro vs w2 hI hR
      have r22 := hR 22 (by decide)
      simp only [fill, Act.put, z1, z2, z3, z4, z5] at r22 ⊢
      clear hR
      generalize vs 22 = x22 at *
      subst r22
      refine NoPanic.normal ?_
      go_wp2
      go_ret
      exact ⟨by rw [HX.out]; rfl, hbw1.trans (hI.mono hbw1.size)⟩

def KRelH (W : World) (rs hrs : List Rg) (t i : Value) (wr : World) : Prop := ∃ k : Nat, i = .int .i64 k ∧ k ≤ rs.length ∧ KindsTo rs hrs k ∧ Below W.heap.size W wr
set_option maxHeartbeats 4000000 in
theorem hasKinds_any (op vx pts : Int) (hA : Option Addr) (hn hc : Nat) (hrs : List Rg) (RA : Option Addr) (rn rc : Nat) (rs : List Rg) (PA : Option Addr) (pn pc : Nat) (ps : List Pt) (QA : Option Addr) (qn qc : Nat) (qs : List Qr) (r : Bool) (T : Nat → Prop) (w : World)
    (hr : ReqR w T hA hn hc hrs RA rn rc rs PA pn pc ps QA qn qc qs) (hl : hn ≤ 9223372036854775807 ∧ rn ≤ 9223372036854775807 ∧ pn ≤ 9223372036854775807 ∧ qn ≤ 9223372036854775807) (hlen : rs.length = hrs.length)
    (hres : kinds (rs.map rgD) (hrs.map rgK) = r) :
    Calls Tryz.prog 57 #[.agg #[.int .i64 op, .int .i64 vx, .slice hA hn hc, .int .i64 pts, .slice RA rn rc, .slice PA pn pc, .slice QA qn qc]] w fun e w' => e = .returned (.bool r) ∧ Below w.heap.size w w' := by
  obtain ⟨W, hW⟩ : ∃ W, W = w.alloc (.cells #[.int .i64 op, .int .i64 vx, .slice hA hn hc, .int .i64 pts, .slice RA rn rc, .slice PA pn pc, .slice QA qn qc] 48) := ⟨_, rfl⟩
  obtain ⟨B, hB⟩ : ∃ b, b = w.heap.size := ⟨_, rfl⟩
  obtain ⟨h0, hsW, g0, g1, g2, g3, g4, g5, g6⟩ := box7 hW
  rw [← hB] at g0 g1 g2 g3 g4 g5 g6
  have hBW : B < W.heap.size := by omega
  clear hsW
  have HBX := Lib.hid (ReqAt.mk g0 g1 g2 g3 g4 g5 g6)
  have hr1 := hr.next h0
  have HR := Lib.hid hr1
  have HHN := Lib.hid hr1.hlen
  have HRN := Lib.hid hr1.rlen
  have HLEN := Lib.hid hlen
  have HE := Lib.hid hres
  have HW := Lib.hid hW
  have HB := Lib.hid hB
  obtain ⟨l1, l2, l3, l4⟩ := hl
  clear hW hB hr hr1 hres hlen g0 g1 g3 g4 g5 g6
  go_enter Tryz.func57, Tryz.ntmps57
  go_upto_region 1 with (fail)
  rw [← HW.out, ← HB.out]
  go_wp2
  go_loopw [3, 9] (fun t i wr => KRelH W rs hrs t i wr) (fun _ i _ => rs.length - (intOf i).toNat)
  case atStart => exact ⟨0, rfl, Nat.zero_le _, fun j _ _ h => absurd h (Nat.not_lt_zero j), Below.refl _ _⟩
  case round =>
    clear g2
    obtain ⟨k, rfl, hk, hto, hbr⟩ := hrel
    have HTO := Lib.hid hto
    clear hto
    by_cases hgo : k < rs.length
    · have hgh : k < hrs.length := by rw [← HLEN.out]; exact hgo
      obtain ⟨b, o, rfl, hT, c0, c1, c2⟩ := (HR.out.rrow.next hbr).rg2 hgo
      obtain ⟨b', o', rfl, hT', e0, e1, e2⟩ := (HR.out.hrow.next hbr).rg2 hgh
      have HSC := Lib.hid (fun e => KindsTo.succ HTO.out hgo hgh e)
      have hNO := Lib.hid (fun (e : ¬ ((rs[k]).d = (hrs[k]).d ∧ (rs[k]).v = (hrs[k]).v)) => show kinds (rs.map rgD) (hrs.map rgK) = false from by
        cases hb : kinds (rs.map rgD) (hrs.map rgK) with
        | false => rfl
        | true => exact absurd (((kinds_to HLEN.out).1 hb) k hgo hgh hgo) e)
      generalize (rs[k]).d = da at c0 HSC hNO
      generalize (rs[k]).v = va at c1 HSC hNO
      obtain ⟨m3, hm3⟩ : ∃ m3, (hrs[k]).l.length = m3 := ⟨_, rfl⟩
      rw [hm3] at e2
      generalize (hrs[k]).A = A3 at e2
      generalize (hrs[k]).c = c3 at e2
      generalize (hrs[k]).d = db at e0 HSC hNO
      generalize (hrs[k]).v = vb at e1 HSC hNO
      have hkr : (k : Int) < rn := by have := HRN.out; omega
      have hkh : (k : Int) < hn := by have := HHN.out; omega
      obtain ⟨W3, hW3⟩ : ∃ W3, W3 = wr.alloc (.cells #[.bool db, .int .i64 vb, .slice A3 m3 c3] 53) := ⟨_, rfl⟩
      have h3 : Below wr.heap.size wr W3 := by rw [hW3]; exact (Below.refl _ _).alloc (Nat.le_refl _) _
      obtain ⟨bl, hbl⟩ : ∃ b, b = wr.heap.size := ⟨_, rfl⟩
      have i0 : W3.cell? ⟨bl, 0, none⟩ = some (.bool db) := by rw [hW3, hbl]; simp [go_sem]
      have i1 : W3.cell? ⟨bl, 1, none⟩ = some (.int .i64 vb) := by rw [hW3, hbl]; simp [go_sem]
      have HW3 := Lib.hid hW3
      have HBL := Lib.hid hbl
      clear hm3 hW3 hbl hT hT' c2
      go_upto_region 4 with (fail)
      rw [← HW3.out, ← HBL.out]
      have k4 := (h3.cell (lt_of_cell (HBX.out.next hbr hBW).c4)).trans (HBX.out.next hbr hBW).c4
      have c0 := (h3.cell (lt_of_cell c0)).trans c0
      have c1 := (h3.cell (lt_of_cell c1)).trans c1
      have hb3 := hbr.trans (h3.mono hbr.size)
      clear e0 e1 e2
      by_cases hdd : da = db
      · have hne1 : (da != db) = false := by rw [bne_eq_false_iff_eq]; exact hdd
        by_cases hvv : va = vb
        · have hne2 : (va != vb) = false := by rw [bne_eq_false_iff_eq]; exact hvv
          have hto2 := HSC.out ⟨hdd, hvv⟩
          clear hdd hvv
          refine dir_plain (by kernel_rfl) 20 [[], [(14, 0)], [], [(15, 1), (16, 2)], [(17, 3)], [(18, 4)], [], [(20, 6)], [(19, 5), (21, 7)], [(22, 8)], [(23, 9)], [(23, 9), (24, 10)], [(23, 9)], [(23, 9), (25, 11), (26, 12)], [(23, 9), (27, 13)], [(23, 9), (28, 14)], [(23, 9)], [(23, 9), (30, 16)], [(23, 9), (29, 15), (31, 17)], [(23, 9), (32, 18)]] [(14, 0), (15, 1), (16, 2), (17, 3), (18, 4), (19, 5), (20, 6), (21, 7), (22, 8), (23, 9), (24, 10), (25, 11), (26, 12), (27, 13), (28, 14), (29, 15), (30, 16), (31, 17), (32, 18), (33, 19)] [
              (fun z_ _ => z_ = .pointer (some ⟨B, 4, none⟩)),
              (fun z_ _ => z_ = .slice (some ⟨b, o, none⟩) rn rc),
              (fun z_ _ => z_ = .int .i64 k),
              (fun z_ _ => z_ = .pointer (some ⟨b, o + k * 3, none⟩)),
              (fun z_ _ => z_ = .pointer (some ⟨b, o + k * 3, none⟩)),
              (fun z_ _ => z_ = .bool da),
              (fun z_ _ => z_ = .pointer (some ⟨bl, 0, none⟩)),
              (fun z_ _ => z_ = .bool db),
              (fun z_ _ => z_ = .bool false),
              (fun z_ _ => z_ = .bool false),
              (fun z_ _ => z_ = .pointer (some ⟨B, 4, none⟩)),
              (fun z_ _ => z_ = .slice (some ⟨b, o, none⟩) rn rc),
              (fun z_ _ => z_ = .int .i64 k),
              (fun z_ _ => z_ = .pointer (some ⟨b, o + k * 3, none⟩)),
              (fun z_ _ => z_ = .pointer (some ⟨b, o + k * 3 + 1, none⟩)),
              (fun z_ _ => z_ = .int .i64 va),
              (fun z_ _ => z_ = .pointer (some ⟨bl, 1, none⟩)),
              (fun z_ _ => z_ = .int .i64 vb),
              (fun z_ _ => z_ = .bool false),
              (fun z_ _ => z_ = .bool false)
            ] (by kernel_rfl) (by kernel_rfl) (by kernel_rfl) (by decide) ⟨dstab_eq, dstab_eq, dstab_eq, dstab_eq, dstab_eq, dstab_eq, dstab_eq, dstab_eq, dstab_eq, dstab_eq, dstab_eq, dstab_eq, dstab_eq, dstab_eq, dstab_eq, dstab_eq, dstab_eq, dstab_eq, dstab_eq, dstab_eq, trivial⟩ ?steps ?fin
          case steps =>
            refine ⟨?_, ?_, ?_, ?_, ?_, ?_, ?_, ?_, ?_, ?_, ?_, ?_, ?_, ?_, ?_, ?_, ?_, ?_, ?_, ?_, trivial⟩
            · intro vs g w2 hI hF hR K hK
              simp only [Facts, fill, Act.put, z1, z2, z3, z4, z5, Nat.reduceAdd] at hF hR hK ⊢
              go_simp
              exact hK _ () _ hI (Below.refl _ _) rfl
            · intro vs g w2 hI hF hR K hK
              simp only [Facts, fill, Act.put, z1, z2, z3, z4, z5, Nat.reduceAdd] at hF hR hK ⊢
              obtain ⟨r0, -⟩ := hR
              generalize vs 0 = x0 at *
              subst r0
              have k0 := (hI.cell (lt_of_cell k4)).trans k4
              go_simp
              exact hK _ () _ hI (Below.refl _ _) rfl
            · intro vs g w2 hI hF hR K hK
              simp only [Facts, fill, Act.put, z1, z2, z3, z4, z5, Nat.reduceAdd] at hF hR hK ⊢
              go_simp
              exact hK _ () _ hI (Below.refl _ _) rfl
            · intro vs g w2 hI hF hR K hK
              simp only [Facts, fill, Act.put, z1, z2, z3, z4, z5, Nat.reduceAdd] at hF hR hK ⊢
              obtain ⟨r1, r2, -⟩ := hR
              generalize vs 1 = x1, vs 2 = x2 at *
              subst r1 r2
              go_simp
              exact hK _ () _ hI (Below.refl _ _) rfl
            · intro vs g w2 hI hF hR K hK
              simp only [Facts, fill, Act.put, z1, z2, z3, z4, z5, Nat.reduceAdd] at hF hR hK ⊢
              obtain ⟨r3, -⟩ := hR
              generalize vs 3 = x3 at *
              subst r3
              go_simp
              exact hK _ () _ hI (Below.refl _ _) rfl
            · intro vs g w2 hI hF hR K hK
              simp only [Facts, fill, Act.put, z1, z2, z3, z4, z5, Nat.reduceAdd] at hF hR hK ⊢
              obtain ⟨r4, -⟩ := hR
              generalize vs 4 = x4 at *
              subst r4
              have k0 := (hI.cell (lt_of_cell c0)).trans c0
              go_simp
              exact hK _ () _ hI (Below.refl _ _) rfl
            · intro vs g w2 hI hF hR K hK
              simp only [Facts, fill, Act.put, z1, z2, z3, z4, z5, Nat.reduceAdd] at hF hR hK ⊢
              go_simp
              exact hK _ () _ hI (Below.refl _ _) rfl
            · intro vs g w2 hI hF hR K hK
              simp only [Facts, fill, Act.put, z1, z2, z3, z4, z5, Nat.reduceAdd] at hF hR hK ⊢
              obtain ⟨r6, -⟩ := hR
              generalize vs 6 = x6 at *
              subst r6
              have k0 := (hI.cell (lt_of_cell i0)).trans i0
              go_simp
              exact hK _ () _ hI (Below.refl _ _) rfl
            · intro vs g w2 hI hF hR K hK
              simp only [Facts, fill, Act.put, z1, z2, z3, z4, z5, Nat.reduceAdd] at hF hR hK ⊢
              obtain ⟨r5, r7, -⟩ := hR
              generalize vs 5 = x5, vs 7 = x7 at *
              subst r5 r7
              have hd := hne1
              go_simp
              exact hK _ () _ hI (Below.refl _ _) (congrArg Value.bool hne1)
            · intro vs g w2 hI hF hR K hK
              simp only [Facts, fill, Act.put, z1, z2, z3, z4, z5, Nat.reduceAdd] at hF hR hK ⊢
              obtain ⟨r8, -⟩ := hR
              generalize vs 8 = x8 at *
              subst r8
              go_simp
              exact hK _ () _ hI (Below.refl _ _) rfl
            · intro vs g w2 hI hF hR K hK
              simp only [Facts, fill, Act.put, z1, z2, z3, z4, z5, Nat.reduceAdd] at hF hR hK ⊢
              obtain ⟨r9, -⟩ := hR
              generalize vs 9 = x9 at *
              subst r9
              go_simp
              exact hK _ () _ hI (Below.refl _ _) rfl
            · intro vs g w2 hI hF hR K hK
              simp only [Facts, fill, Act.put, z1, z2, z3, z4, z5, Nat.reduceAdd] at hF hR hK ⊢
              obtain ⟨r9, r10, -⟩ := hR
              generalize vs 9 = x9, vs 10 = x10 at *
              subst r9 r10
              have k0 := (hI.cell (lt_of_cell k4)).trans k4
              go_simp
              exact hK _ () _ hI (Below.refl _ _) rfl
            · intro vs g w2 hI hF hR K hK
              simp only [Facts, fill, Act.put, z1, z2, z3, z4, z5, Nat.reduceAdd] at hF hR hK ⊢
              obtain ⟨r9, -⟩ := hR
              generalize vs 9 = x9 at *
              subst r9
              go_simp
              exact hK _ () _ hI (Below.refl _ _) rfl
            · intro vs g w2 hI hF hR K hK
              simp only [Facts, fill, Act.put, z1, z2, z3, z4, z5, Nat.reduceAdd] at hF hR hK ⊢
              obtain ⟨r9, r11, r12, -⟩ := hR
              generalize vs 9 = x9, vs 11 = x11, vs 12 = x12 at *
              subst r9 r11 r12
              go_simp
              exact hK _ () _ hI (Below.refl _ _) rfl
            · intro vs g w2 hI hF hR K hK
              simp only [Facts, fill, Act.put, z1, z2, z3, z4, z5, Nat.reduceAdd] at hF hR hK ⊢
              obtain ⟨r9, r13, -⟩ := hR
              generalize vs 9 = x9, vs 13 = x13 at *
              subst r9 r13
              go_simp
              exact hK _ () _ hI (Below.refl _ _) rfl
            · intro vs g w2 hI hF hR K hK
              simp only [Facts, fill, Act.put, z1, z2, z3, z4, z5, Nat.reduceAdd] at hF hR hK ⊢
              obtain ⟨r9, r14, -⟩ := hR
              generalize vs 9 = x9, vs 14 = x14 at *
              subst r9 r14
              have k0 := (hI.cell (lt_of_cell c1)).trans c1
              go_simp
              exact hK _ () _ hI (Below.refl _ _) rfl
            · intro vs g w2 hI hF hR K hK
              simp only [Facts, fill, Act.put, z1, z2, z3, z4, z5, Nat.reduceAdd] at hF hR hK ⊢
              obtain ⟨r9, -⟩ := hR
              generalize vs 9 = x9 at *
              subst r9
              go_simp
              exact hK _ () _ hI (Below.refl _ _) rfl
            · intro vs g w2 hI hF hR K hK
              simp only [Facts, fill, Act.put, z1, z2, z3, z4, z5, Nat.reduceAdd] at hF hR hK ⊢
              obtain ⟨r9, r16, -⟩ := hR
              generalize vs 9 = x9, vs 16 = x16 at *
              subst r9 r16
              have k0 := (hI.cell (lt_of_cell i1)).trans i1
              go_simp
              exact hK _ () _ hI (Below.refl _ _) rfl
            · intro vs g w2 hI hF hR K hK
              simp only [Facts, fill, Act.put, z1, z2, z3, z4, z5, Nat.reduceAdd] at hF hR hK ⊢
              obtain ⟨r9, r15, r17, -⟩ := hR
              generalize vs 9 = x9, vs 15 = x15, vs 17 = x17 at *
              subst r9 r15 r17
              have hd := hne2
              go_simp
              exact hK _ () _ hI (Below.refl _ _) rfl
            · intro vs g w2 hI hF hR K hK
              simp only [Facts, fill, Act.put, z1, z2, z3, z4, z5, Nat.reduceAdd] at hF hR hK ⊢
              obtain ⟨r9, r18, -⟩ := hR
              generalize vs 9 = x9, vs 18 = x18 at *
              subst r9 r18
              go_simp
              exact hK _ () _ hI (Below.refl _ _) rfl
          case fin =>
            intro vs w2 hI hR
            have r19 := hR 19 (by decide)
            simp only [fill, Act.put, z1, z2, z3, z4, z5] at r19 ⊢
            clear hR
            generalize vs 19 = x19 at *
            subst r19
            refine NoPanic.normal ?_
            have hbf := hb3.trans (hI.mono hb3.size)
            go_wp2
            go_roundw
            case rel => exact ⟨k + 1, by go_num, hgo, hto2, hbf⟩
            case measure => simp [intOf]; omega
        · have hne2 : (va != vb) = true := by rw [bne_iff_ne]; exact hvv
          have HX := Lib.hid (show r = false by rw [← HE.out]; exact hNO.out (fun h => hvv h.2))
          clear hdd hvv
          refine dir_plain (by kernel_rfl) 20 [[], [(14, 0)], [], [(15, 1), (16, 2)], [(17, 3)], [(18, 4)], [], [(20, 6)], [(19, 5), (21, 7)], [(22, 8)], [(23, 9)], [(23, 9), (24, 10)], [(23, 9)], [(23, 9), (25, 11), (26, 12)], [(23, 9), (27, 13)], [(23, 9), (28, 14)], [(23, 9)], [(23, 9), (30, 16)], [(23, 9), (29, 15), (31, 17)], [(23, 9), (32, 18)]] [(14, 0), (15, 1), (16, 2), (17, 3), (18, 4), (19, 5), (20, 6), (21, 7), (22, 8), (23, 9), (24, 10), (25, 11), (26, 12), (27, 13), (28, 14), (29, 15), (30, 16), (31, 17), (32, 18), (33, 19)] [
              (fun z_ _ => z_ = .pointer (some ⟨B, 4, none⟩)),
              (fun z_ _ => z_ = .slice (some ⟨b, o, none⟩) rn rc),
              (fun z_ _ => z_ = .int .i64 k),
              (fun z_ _ => z_ = .pointer (some ⟨b, o + k * 3, none⟩)),
              (fun z_ _ => z_ = .pointer (some ⟨b, o + k * 3, none⟩)),
              (fun z_ _ => z_ = .bool da),
              (fun z_ _ => z_ = .pointer (some ⟨bl, 0, none⟩)),
              (fun z_ _ => z_ = .bool db),
              (fun z_ _ => z_ = .bool false),
              (fun z_ _ => z_ = .bool false),
              (fun z_ _ => z_ = .pointer (some ⟨B, 4, none⟩)),
              (fun z_ _ => z_ = .slice (some ⟨b, o, none⟩) rn rc),
              (fun z_ _ => z_ = .int .i64 k),
              (fun z_ _ => z_ = .pointer (some ⟨b, o + k * 3, none⟩)),
              (fun z_ _ => z_ = .pointer (some ⟨b, o + k * 3 + 1, none⟩)),
              (fun z_ _ => z_ = .int .i64 va),
              (fun z_ _ => z_ = .pointer (some ⟨bl, 1, none⟩)),
              (fun z_ _ => z_ = .int .i64 vb),
              (fun z_ _ => z_ = .bool true),
              (fun z_ _ => z_ = .bool true)
            ] (by kernel_rfl) (by kernel_rfl) (by kernel_rfl) (by decide) ⟨dstab_eq, dstab_eq, dstab_eq, dstab_eq, dstab_eq, dstab_eq, dstab_eq, dstab_eq, dstab_eq, dstab_eq, dstab_eq, dstab_eq, dstab_eq, dstab_eq, dstab_eq, dstab_eq, dstab_eq, dstab_eq, dstab_eq, dstab_eq, trivial⟩ ?steps ?fin
          case steps =>
            refine ⟨?_, ?_, ?_, ?_, ?_, ?_, ?_, ?_, ?_, ?_, ?_, ?_, ?_, ?_, ?_, ?_, ?_, ?_, ?_, ?_, trivial⟩
            · intro vs g w2 hI hF hR K hK
              simp only [Facts, fill, Act.put, z1, z2, z3, z4, z5, Nat.reduceAdd] at hF hR hK ⊢
              go_simp
              exact hK _ () _ hI (Below.refl _ _) rfl
            · intro vs g w2 hI hF hR K hK
              simp only [Facts, fill, Act.put, z1, z2, z3, z4, z5, Nat.reduceAdd] at hF hR hK ⊢
              obtain ⟨r0, -⟩ := hR
              generalize vs 0 = x0 at *
              subst r0
              have k0 := (hI.cell (lt_of_cell k4)).trans k4
              go_simp
              exact hK _ () _ hI (Below.refl _ _) rfl
            · intro vs g w2 hI hF hR K hK
              simp only [Facts, fill, Act.put, z1, z2, z3, z4, z5, Nat.reduceAdd] at hF hR hK ⊢
              go_simp
              exact hK _ () _ hI (Below.refl _ _) rfl
            · intro vs g w2 hI hF hR K hK
              simp only [Facts, fill, Act.put, z1, z2, z3, z4, z5, Nat.reduceAdd] at hF hR hK ⊢
              obtain ⟨r1, r2, -⟩ := hR
              generalize vs 1 = x1, vs 2 = x2 at *
              subst r1 r2
              go_simp
              exact hK _ () _ hI (Below.refl _ _) rfl
            · intro vs g w2 hI hF hR K hK
              simp only [Facts, fill, Act.put, z1, z2, z3, z4, z5, Nat.reduceAdd] at hF hR hK ⊢
              obtain ⟨r3, -⟩ := hR
              generalize vs 3 = x3 at *
              subst r3
              go_simp
              exact hK _ () _ hI (Below.refl _ _) rfl
            · intro vs g w2 hI hF hR K hK
              simp only [Facts, fill, Act.put, z1, z2, z3, z4, z5, Nat.reduceAdd] at hF hR hK ⊢
              obtain ⟨r4, -⟩ := hR
              generalize vs 4 = x4 at *
              subst r4
              have k0 := (hI.cell (lt_of_cell c0)).trans c0
              go_simp
              exact hK _ () _ hI (Below.refl _ _) rfl
            · intro vs g w2 hI hF hR K hK
              simp only [Facts, fill, Act.put, z1, z2, z3, z4, z5, Nat.reduceAdd] at hF hR hK ⊢
              go_simp
              exact hK _ () _ hI (Below.refl _ _) rfl
            · intro vs g w2 hI hF hR K hK
              simp only [Facts, fill, Act.put, z1, z2, z3, z4, z5, Nat.reduceAdd] at hF hR hK ⊢
              obtain ⟨r6, -⟩ := hR
              generalize vs 6 = x6 at *
              subst r6
              have k0 := (hI.cell (lt_of_cell i0)).trans i0
              go_simp
              exact hK _ () _ hI (Below.refl _ _) rfl
            · intro vs g w2 hI hF hR K hK
              simp only [Facts, fill, Act.put, z1, z2, z3, z4, z5, Nat.reduceAdd] at hF hR hK ⊢
              obtain ⟨r5, r7, -⟩ := hR
              generalize vs 5 = x5, vs 7 = x7 at *
              subst r5 r7
              have hd := hne1
              go_simp
              exact hK _ () _ hI (Below.refl _ _) (congrArg Value.bool hne1)
            · intro vs g w2 hI hF hR K hK
              simp only [Facts, fill, Act.put, z1, z2, z3, z4, z5, Nat.reduceAdd] at hF hR hK ⊢
              obtain ⟨r8, -⟩ := hR
              generalize vs 8 = x8 at *
              subst r8
              go_simp
              exact hK _ () _ hI (Below.refl _ _) rfl
            · intro vs g w2 hI hF hR K hK
              simp only [Facts, fill, Act.put, z1, z2, z3, z4, z5, Nat.reduceAdd] at hF hR hK ⊢
              obtain ⟨r9, -⟩ := hR
              generalize vs 9 = x9 at *
              subst r9
              go_simp
              exact hK _ () _ hI (Below.refl _ _) rfl
            · intro vs g w2 hI hF hR K hK
              simp only [Facts, fill, Act.put, z1, z2, z3, z4, z5, Nat.reduceAdd] at hF hR hK ⊢
              obtain ⟨r9, r10, -⟩ := hR
              generalize vs 9 = x9, vs 10 = x10 at *
              subst r9 r10
              have k0 := (hI.cell (lt_of_cell k4)).trans k4
              go_simp
              exact hK _ () _ hI (Below.refl _ _) rfl
            · intro vs g w2 hI hF hR K hK
              simp only [Facts, fill, Act.put, z1, z2, z3, z4, z5, Nat.reduceAdd] at hF hR hK ⊢
              obtain ⟨r9, -⟩ := hR
              generalize vs 9 = x9 at *
              subst r9
              go_simp
              exact hK _ () _ hI (Below.refl _ _) rfl
            · intro vs g w2 hI hF hR K hK
              simp only [Facts, fill, Act.put, z1, z2, z3, z4, z5, Nat.reduceAdd] at hF hR hK ⊢
              obtain ⟨r9, r11, r12, -⟩ := hR
              generalize vs 9 = x9, vs 11 = x11, vs 12 = x12 at *
              subst r9 r11 r12
              go_simp
              exact hK _ () _ hI (Below.refl _ _) rfl
            · intro vs g w2 hI hF hR K hK
              simp only [Facts, fill, Act.put, z1, z2, z3, z4, z5, Nat.reduceAdd] at hF hR hK ⊢
              obtain ⟨r9, r13, -⟩ := hR
              generalize vs 9 = x9, vs 13 = x13 at *
              subst r9 r13
              go_simp
              exact hK _ () _ hI (Below.refl _ _) rfl
            · intro vs g w2 hI hF hR K hK
              simp only [Facts, fill, Act.put, z1, z2, z3, z4, z5, Nat.reduceAdd] at hF hR hK ⊢
              obtain ⟨r9, r14, -⟩ := hR
              generalize vs 9 = x9, vs 14 = x14 at *
              subst r9 r14
              have k0 := (hI.cell (lt_of_cell c1)).trans c1
              go_simp
              exact hK _ () _ hI (Below.refl _ _) rfl
            · intro vs g w2 hI hF hR K hK
              simp only [Facts, fill, Act.put, z1, z2, z3, z4, z5, Nat.reduceAdd] at hF hR hK ⊢
              obtain ⟨r9, -⟩ := hR
              generalize vs 9 = x9 at *
              subst r9
              go_simp
              exact hK _ () _ hI (Below.refl _ _) rfl
            · intro vs g w2 hI hF hR K hK
              simp only [Facts, fill, Act.put, z1, z2, z3, z4, z5, Nat.reduceAdd] at hF hR hK ⊢
              obtain ⟨r9, r16, -⟩ := hR
              generalize vs 9 = x9, vs 16 = x16 at *
              subst r9 r16
              have k0 := (hI.cell (lt_of_cell i1)).trans i1
              go_simp
              exact hK _ () _ hI (Below.refl _ _) rfl
            · intro vs g w2 hI hF hR K hK
              simp only [Facts, fill, Act.put, z1, z2, z3, z4, z5, Nat.reduceAdd] at hF hR hK ⊢
              obtain ⟨r9, r15, r17, -⟩ := hR
              generalize vs 9 = x9, vs 15 = x15, vs 17 = x17 at *
              subst r9 r15 r17
              have hd := hne2
              go_simp
              exact hK _ () _ hI (Below.refl _ _) rfl
            · intro vs g w2 hI hF hR K hK
              simp only [Facts, fill, Act.put, z1, z2, z3, z4, z5, Nat.reduceAdd] at hF hR hK ⊢
              obtain ⟨r9, r18, -⟩ := hR
              generalize vs 9 = x9, vs 18 = x18 at *
              subst r9 r18
              go_simp
              exact hK _ () _ hI (Below.refl _ _) rfl
          case fin =>
            intro vs w2 hI hR
            have r19 := hR 19 (by decide)
            simp only [fill, Act.put, z1, z2, z3, z4, z5] at r19 ⊢
            clear hR
            generalize vs 19 = x19 at *
            subst r19
            refine NoPanic.normal ?_
            have hbf := hb3.trans (hI.mono hb3.size)
            go_wp2
            go_ret
            exact ⟨by rw [HX.out]; rfl, h0.trans (hbf.mono h0.size)⟩
      · have hne1 : (da != db) = true := by rw [bne_iff_ne]; exact hdd
        have HX := Lib.hid (show r = false by rw [← HE.out]; exact hNO.out (fun h => hdd h.1))
        clear hdd
        refine dir_plain (by kernel_rfl) 20 [[], [(14, 0)], [], [(15, 1), (16, 2)], [(17, 3)], [(18, 4)], [], [(20, 6)], [(19, 5), (21, 7)], [(22, 8)], [(23, 9)], [(23, 9), (24, 10)], [(23, 9)], [(23, 9), (25, 11), (26, 12)], [(23, 9), (27, 13)], [(23, 9), (28, 14)], [(23, 9)], [(23, 9), (30, 16)], [(23, 9), (29, 15), (31, 17)], [(23, 9), (32, 18)]] [(14, 0), (15, 1), (16, 2), (17, 3), (18, 4), (19, 5), (20, 6), (21, 7), (22, 8), (23, 9), (24, 10), (25, 11), (26, 12), (27, 13), (28, 14), (29, 15), (30, 16), (31, 17), (32, 18), (33, 19)] [
            (fun z_ _ => z_ = .pointer (some ⟨B, 4, none⟩)),
            (fun z_ _ => z_ = .slice (some ⟨b, o, none⟩) rn rc),
            (fun z_ _ => z_ = .int .i64 k),
            (fun z_ _ => z_ = .pointer (some ⟨b, o + k * 3, none⟩)),
            (fun z_ _ => z_ = .pointer (some ⟨b, o + k * 3, none⟩)),
            (fun z_ _ => z_ = .bool da),
            (fun z_ _ => z_ = .pointer (some ⟨bl, 0, none⟩)),
            (fun z_ _ => z_ = .bool db),
            (fun z_ _ => z_ = .bool true),
            (fun z_ _ => z_ = .bool true),
            (fun z_ _ => z_ = undef),
            (fun z_ _ => z_ = undef),
            (fun z_ _ => z_ = undef),
            (fun z_ _ => z_ = undef),
            (fun z_ _ => z_ = undef),
            (fun z_ _ => z_ = undef),
            (fun z_ _ => z_ = undef),
            (fun z_ _ => z_ = undef),
            (fun z_ _ => z_ = undef),
            (fun z_ _ => z_ = .bool true)
          ] (by kernel_rfl) (by kernel_rfl) (by kernel_rfl) (by decide) ⟨dstab_eq, dstab_eq, dstab_eq, dstab_eq, dstab_eq, dstab_eq, dstab_eq, dstab_eq, dstab_eq, dstab_eq, dstab_eq, dstab_eq, dstab_eq, dstab_eq, dstab_eq, dstab_eq, dstab_eq, dstab_eq, dstab_eq, dstab_eq, trivial⟩ ?steps ?fin
        case steps =>
          refine ⟨?_, ?_, ?_, ?_, ?_, ?_, ?_, ?_, ?_, ?_, ?_, ?_, ?_, ?_, ?_, ?_, ?_, ?_, ?_, ?_, trivial⟩
          · intro vs g w2 hI hF hR K hK
            simp only [Facts, fill, Act.put, z1, z2, z3, z4, z5, Nat.reduceAdd] at hF hR hK ⊢
            go_simp
            exact hK _ () _ hI (Below.refl _ _) rfl
          · intro vs g w2 hI hF hR K hK
            simp only [Facts, fill, Act.put, z1, z2, z3, z4, z5, Nat.reduceAdd] at hF hR hK ⊢
            obtain ⟨r0, -⟩ := hR
            generalize vs 0 = x0 at *
            subst r0
            have k0 := (hI.cell (lt_of_cell k4)).trans k4
            go_simp
            exact hK _ () _ hI (Below.refl _ _) rfl
          · intro vs g w2 hI hF hR K hK
            simp only [Facts, fill, Act.put, z1, z2, z3, z4, z5, Nat.reduceAdd] at hF hR hK ⊢
            go_simp
            exact hK _ () _ hI (Below.refl _ _) rfl
          · intro vs g w2 hI hF hR K hK
            simp only [Facts, fill, Act.put, z1, z2, z3, z4, z5, Nat.reduceAdd] at hF hR hK ⊢
            obtain ⟨r1, r2, -⟩ := hR
            generalize vs 1 = x1, vs 2 = x2 at *
            subst r1 r2
            go_simp
            exact hK _ () _ hI (Below.refl _ _) rfl
          · intro vs g w2 hI hF hR K hK
            simp only [Facts, fill, Act.put, z1, z2, z3, z4, z5, Nat.reduceAdd] at hF hR hK ⊢
            obtain ⟨r3, -⟩ := hR
            generalize vs 3 = x3 at *
            subst r3
            go_simp
            exact hK _ () _ hI (Below.refl _ _) rfl
          · intro vs g w2 hI hF hR K hK
            simp only [Facts, fill, Act.put, z1, z2, z3, z4, z5, Nat.reduceAdd] at hF hR hK ⊢
            obtain ⟨r4, -⟩ := hR
            generalize vs 4 = x4 at *
            subst r4
            have k0 := (hI.cell (lt_of_cell c0)).trans c0
            go_simp
            exact hK _ () _ hI (Below.refl _ _) rfl
          · intro vs g w2 hI hF hR K hK
            simp only [Facts, fill, Act.put, z1, z2, z3, z4, z5, Nat.reduceAdd] at hF hR hK ⊢
            go_simp
            exact hK _ () _ hI (Below.refl _ _) rfl
          · intro vs g w2 hI hF hR K hK
            simp only [Facts, fill, Act.put, z1, z2, z3, z4, z5, Nat.reduceAdd] at hF hR hK ⊢
            obtain ⟨r6, -⟩ := hR
            generalize vs 6 = x6 at *
            subst r6
            have k0 := (hI.cell (lt_of_cell i0)).trans i0
            go_simp
            exact hK _ () _ hI (Below.refl _ _) rfl
          · intro vs g w2 hI hF hR K hK
            simp only [Facts, fill, Act.put, z1, z2, z3, z4, z5, Nat.reduceAdd] at hF hR hK ⊢
            obtain ⟨r5, r7, -⟩ := hR
            generalize vs 5 = x5, vs 7 = x7 at *
            subst r5 r7
            have hd := hne1
            go_simp
            exact hK _ () _ hI (Below.refl _ _) (congrArg Value.bool hne1)
          · intro vs g w2 hI hF hR K hK
            simp only [Facts, fill, Act.put, z1, z2, z3, z4, z5, Nat.reduceAdd] at hF hR hK ⊢
            obtain ⟨r8, -⟩ := hR
            generalize vs 8 = x8 at *
            subst r8
            go_simp
            exact hK _ () _ hI (Below.refl _ _) rfl
          · intro vs g w2 hI hF hR K hK
            simp only [Facts, fill, Act.put, z1, z2, z3, z4, z5, Nat.reduceAdd] at hF hR hK ⊢
            obtain ⟨r9, -⟩ := hR
            generalize vs 9 = x9 at *
            subst r9
            go_simp
            exact hK _ () _ hI (Below.refl _ _) rfl
          · intro vs g w2 hI hF hR K hK
            simp only [Facts, fill, Act.put, z1, z2, z3, z4, z5, Nat.reduceAdd] at hF hR hK ⊢
            obtain ⟨r9, r10, -⟩ := hR
            generalize vs 9 = x9, vs 10 = x10 at *
            subst r9 r10
            go_simp
            exact hK _ () _ hI (Below.refl _ _) rfl
          · intro vs g w2 hI hF hR K hK
            simp only [Facts, fill, Act.put, z1, z2, z3, z4, z5, Nat.reduceAdd] at hF hR hK ⊢
            obtain ⟨r9, -⟩ := hR
            generalize vs 9 = x9 at *
            subst r9
            go_simp
            exact hK _ () _ hI (Below.refl _ _) rfl
          · intro vs g w2 hI hF hR K hK
            simp only [Facts, fill, Act.put, z1, z2, z3, z4, z5, Nat.reduceAdd] at hF hR hK ⊢
            obtain ⟨r9, r11, r12, -⟩ := hR
            generalize vs 9 = x9, vs 11 = x11, vs 12 = x12 at *
            subst r9 r11 r12
            go_simp
            exact hK _ () _ hI (Below.refl _ _) rfl
          · intro vs g w2 hI hF hR K hK
            simp only [Facts, fill, Act.put, z1, z2, z3, z4, z5, Nat.reduceAdd] at hF hR hK ⊢
            obtain ⟨r9, r13, -⟩ := hR
            generalize vs 9 = x9, vs 13 = x13 at *
            subst r9 r13
            go_simp
            exact hK _ () _ hI (Below.refl _ _) rfl
          · intro vs g w2 hI hF hR K hK
            simp only [Facts, fill, Act.put, z1, z2, z3, z4, z5, Nat.reduceAdd] at hF hR hK ⊢
            obtain ⟨r9, r14, -⟩ := hR
            generalize vs 9 = x9, vs 14 = x14 at *
            subst r9 r14
            go_simp
            exact hK _ () _ hI (Below.refl _ _) rfl
          · intro vs g w2 hI hF hR K hK
            simp only [Facts, fill, Act.put, z1, z2, z3, z4, z5, Nat.reduceAdd] at hF hR hK ⊢
            obtain ⟨r9, -⟩ := hR
            generalize vs 9 = x9 at *
            subst r9
            go_simp
            exact hK _ () _ hI (Below.refl _ _) rfl
          · intro vs g w2 hI hF hR K hK
            simp only [Facts, fill, Act.put, z1, z2, z3, z4, z5, Nat.reduceAdd] at hF hR hK ⊢
            obtain ⟨r9, r16, -⟩ := hR
            generalize vs 9 = x9, vs 16 = x16 at *
            subst r9 r16
            go_simp
            exact hK _ () _ hI (Below.refl _ _) rfl
          · intro vs g w2 hI hF hR K hK
            simp only [Facts, fill, Act.put, z1, z2, z3, z4, z5, Nat.reduceAdd] at hF hR hK ⊢
            obtain ⟨r9, r15, r17, -⟩ := hR
            generalize vs 9 = x9, vs 15 = x15, vs 17 = x17 at *
            subst r9 r15 r17
            go_simp
            exact hK _ () _ hI (Below.refl _ _) rfl
          · intro vs g w2 hI hF hR K hK
            simp only [Facts, fill, Act.put, z1, z2, z3, z4, z5, Nat.reduceAdd] at hF hR hK ⊢
            obtain ⟨r9, r18, -⟩ := hR
            generalize vs 9 = x9, vs 18 = x18 at *
            subst r9 r18
            go_simp
            exact hK _ () _ hI (Below.refl _ _) rfl
        case fin =>
          intro vs w2 hI hR
          have r19 := hR 19 (by decide)
          simp only [fill, Act.put, z1, z2, z3, z4, z5] at r19 ⊢
          clear hR
          generalize vs 19 = x19 at *
          subst r19
          refine NoPanic.normal ?_
          have hbf := hb3.trans (hI.mono hb3.size)
          go_wp2
          go_ret
          exact ⟨by rw [HX.out]; rfl, h0.trans (hbf.mono h0.size)⟩
    · have hke : k = rs.length := by omega
      subst hke
      have HX := Lib.hid (show r = true by rw [← HE.out]; exact (kinds_to HLEN.out).2 HTO.out)
      have hrnk : ¬ ((rs.length : Int) < hn) := by have := HHN.out; have := HLEN.out; omega
      obtain ⟨L, hL⟩ : ∃ L, L = rs.length := ⟨_, rfl⟩
      rw [← hL] at hrnk ⊢
      clear hL
      go_wp2
      go_ret
      exact ⟨by rw [HX.out]; rfl, h0.trans (hbr.mono h0.size)⟩
end Go.Proofs.YthmkllpdkcmccaaGreatDoor
