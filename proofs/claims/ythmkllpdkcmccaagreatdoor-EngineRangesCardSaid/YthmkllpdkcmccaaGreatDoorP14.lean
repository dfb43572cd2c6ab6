/-
  Packed texts: EngV, EngB, EngC, EvA.
-/
import Derived.Laws.AppendOwnNone
import Derived.Lib.AppendZeros
import Derived.Test.YthmkllpdkcmccaaGreatDoorP13
namespace Go.Proofs.YthmkllpdkcmccaaGreatDoor
open Go.RowKit
set_option maxRecDepth 100000
set_option linter.unusedVariables false
set_option linter.unusedSimpArgs false

theorem cirSign_d (a b c d : Pt) (w : World) (hw : Wts w) (ha : S a.x ∧ S a.y) (hb : S b.x ∧ S b.y) (hc : S c.x ∧ S c.y) (hd : S d.x ∧ S d.y) (r : Int) (hr : sgnC a b c d = r) :
    Calls Tryz.prog 84 #[.agg #[.int .i64 a.x, .int .i64 a.y], .agg #[.int .i64 b.x, .int .i64 b.y], .agg #[.int .i64 c.x, .int .i64 c.y], .agg #[.int .i64 d.x, .int .i64 d.y]] w fun e w' => e = .returned (.int .i64 r) ∧ Below w.heap.size w w' := by
  subst hr
  refine (gCircleSign (RInv.start0 (Ctx.ok_none (Below.refl w.heap.size w))) hw ha.1 ha.2 hb.1 hb.2 hc.1 hc.2 hd.1 hd.2).mono ?_
  rintro e w' ⟨v, rfl, ⟨s, rfl, hs⟩, hb⟩
  exact ⟨by rw [hs]; rfl, hb⟩
set_option maxHeartbeats 2000000 in
theorem orientValue_c (tv : Value) (vx pts : Int) (hA : Option Addr) (hn hc : Nat) (hrs : List Rg) (RA : Option Addr) (rn rc : Nat) (rs : List Rg) (PA : Option Addr) (pn pc : Nat) (ps : List Pt) (QA : Option Addr) (qn qc : Nat) (qs : List Qr) (p : Bool) (v : Int) (T : Nat → Prop) (w : World) (hw : Wts w) (hr : ReqR w T hA hn hc hrs RA rn rc rs PA pn pc ps QA qn qc qs) (he : encE ⟨⟨1, vx, hrs.map rgK, pts⟩, rs.map rgD, ps, qs⟩ p = 0) (hv : valEw 0 1 rs ps = v) :
    Calls Tryz.prog 62 #[tv, .agg #[.int .i64 1, .int .i64 vx, .slice hA hn hc, .int .i64 pts, .slice RA rn rc, .slice PA pn pc, .slice QA qn qc]] w fun e w' => e = .returned (.int .i64 v) ∧ Below w.heap.size w w' := by
  obtain ⟨W, hW⟩ : ∃ W, W = w.alloc (.cells #[.int .i64 1, .int .i64 vx, .slice hA hn hc, .int .i64 pts, .slice RA rn rc, .slice PA pn pc, .slice QA qn qc] 48) := ⟨_, rfl⟩
  obtain ⟨B, hB⟩ : ∃ b, b = w.heap.size := ⟨_, rfl⟩
  obtain ⟨h0, hsW, g0, g1, g2, g3, g4, g5, g6⟩ := box7 hW
  rw [← hB] at g0 g1 g2 g3 g4 g5 g6
  have HRQ := Lib.hid (hr.next h0)
  have HW := Lib.hid hW
  have HB := Lib.hid hB
  obtain ⟨hpl, hk⟩ := pts_enc he
  have hvs := hk.vs3
  simp only at hvs
  have hpn := hr.plen
  have hpc := hr.pcap
  have HV := Lib.hid hv
  have hrow := HRQ.out.prow
  have hss := HRQ.out.pss
  have HWT := Lib.hid (hw.below h0)
  clear hW hB hr hsW he hk hv
  have hp3 : pn = 3 := by
    have : cntP ⟨1, vx, hrs.map rgK, pts⟩ = 3 := rfl
    rw [this] at hpl; omega
  subst hp3
  obtain ⟨b, o, rfl, -, -, -⟩ := hrow.pt_ (k := 0) (by omega)
  have p01 := hrow.pt2 (k := 0) (by omega)
  have q01 := hrow.pt2 (k := 1) (by omega)
  have x01 := hrow.pt2 (k := 2) (by omega)
  rw [Nat.zero_mul, Nat.add_zero] at p01
  rw [Nat.one_mul, show o + 2 + 1 = o + 3 from rfl] at q01
  rw [show o + 2 * 2 = o + 4 from rfl, show o + 4 + 1 = o + 5 from rfl] at x01
  obtain ⟨p0, p1⟩ := p01
  obtain ⟨q0, q1⟩ := q01
  obtain ⟨x0, x1⟩ := x01
  have hsg := sgn_in (Go.Proofs.YthmkllpdkcmccaaGreatDoor.at_ ps 0) (Go.Proofs.YthmkllpdkcmccaaGreatDoor.at_ ps 1) (Go.Proofs.YthmkllpdkcmccaaGreatDoor.at_ ps 2)
  obtain ⟨r, hrr⟩ : ∃ r, sgnP (Go.Proofs.YthmkllpdkcmccaaGreatDoor.at_ ps 0) (Go.Proofs.YthmkllpdkcmccaaGreatDoor.at_ ps 1) (Go.Proofs.YthmkllpdkcmccaaGreatDoor.at_ ps 2) = r := ⟨_, rfl⟩
  rw [hrr] at hsg
  have HVR := Lib.hid (show r + 1 = v by rw [← HV.out, ← hrr]; rfl)
  have HR := Lib.hid hrr
  have HP := Lib.hid (hss.ss (k := 0) (by omega))
  have HQ := Lib.hid (hss.ss (k := 1) (by omega))
  have HX := Lib.hid (hss.ss (k := 2) (by omega))
  clear hrr
  generalize Go.Proofs.YthmkllpdkcmccaaGreatDoor.at_ ps 0 = P at *
  generalize Go.Proofs.YthmkllpdkcmccaaGreatDoor.at_ ps 1 = Q at *
  generalize Go.Proofs.YthmkllpdkcmccaaGreatDoor.at_ ps 2 = X at *
  have er1 : IntKind.i64.wrap (r + 1) = v := by rw [wrap_i64' (by omega) (by omega), HVR.out]
  have hv2 : 0 ≤ v ∧ v ≤ 2 := by have := HVR.out; rcases hsg with h | h | h <;> omega
  have eu1 : IntKind.u64.wrap v = v := wrap_u64' (by omega) (by omega)
  clear hrow hss hpl hvs hpn hpc
  go_enter Tryz.func62, Tryz.ntmps62
  go_upto_region 1 with (fail)
  rw [← HW.out, ← HB.out]
  go_upto_region 2 with (fail)
  refine dir_plain (by kernel_rfl) 14 [[], [(8, 0)], [(9, 1)], [], [(11, 3)], [(12, 4)], [], [(14, 6)], [(15, 7)], [(10, 2), (13, 5), (16, 8)], [(17, 9)], [(18, 10)], [(19, 11)], [(20, 12)]] [(8, 0), (9, 1), (10, 2), (11, 3), (12, 4), (13, 5), (14, 6), (15, 7), (16, 8), (17, 9), (18, 10), (19, 11), (20, 12), (4, 13)] [
      (fun z_ _ => z_ = .slice (some ⟨b, o, none⟩) 3 pc),
      (fun z_ _ => z_ = .pointer (some ⟨b, o, none⟩)),
      (fun z_ _ => z_ = .agg #[.int .i64 P.x, .int .i64 P.y]),
      (fun z_ _ => z_ = .slice (some ⟨b, o, none⟩) 3 pc),
      (fun z_ _ => z_ = .pointer (some ⟨b, (o + 2), none⟩)),
      (fun z_ _ => z_ = .agg #[.int .i64 Q.x, .int .i64 Q.y]),
      (fun z_ _ => z_ = .slice (some ⟨b, o, none⟩) 3 pc),
      (fun z_ _ => z_ = .pointer (some ⟨b, (o + 4), none⟩)),
      (fun z_ _ => z_ = .agg #[.int .i64 X.x, .int .i64 X.y]),
      (fun z_ _ => z_ = .int .i64 r),
      (fun z_ _ => z_ = .int .i64 v),
      (fun z_ _ => z_ = .int .u64 v),
      (fun z_ _ => z_ = .int .i64 v),
      (fun z_ _ => z_ = .int .i64 v)
    ] (by kernel_rfl) (by kernel_rfl) (by kernel_rfl) (by decide) ⟨dstab_eq, dstab_eq, dstab_eq, dstab_eq, dstab_eq, dstab_eq, dstab_eq, dstab_eq, dstab_eq, dstab_eq, dstab_eq, dstab_eq, dstab_eq, dstab_eq, trivial⟩ ?steps ?fin
  case steps =>
    refine ⟨?_, ?_, ?_, ?_, ?_, ?_, ?_, ?_, ?_, ?_, ?_, ?_, ?_, ?_, trivial⟩
    · intro vs g w2 hI hF hR K hK
      simp only [Facts, fill, Act.put, z1, z2, z3, z4, z5, Nat.reduceAdd] at hF hR hK ⊢
      go_simp
      exact hK _ () _ hI (Below.refl _ _) rfl
    · intro vs g w2 hI hF hR K hK
      simp only [Facts, fill, Act.put, z1, z2, z3, z4, z5, Nat.reduceAdd] at hF hR hK ⊢
      obtain ⟨r0, -⟩ := hR
      generalize vs 0 = x0 at *
      subst r0
      go_simp
      exact hK _ () _ hI (Below.refl _ _) rfl
    · intro vs g w2 hI hF hR K hK
      simp only [Facts, fill, Act.put, z1, z2, z3, z4, z5, Nat.reduceAdd] at hF hR hK ⊢
      obtain ⟨r1, -⟩ := hR
      generalize vs 1 = x1 at *
      subst r1
      have k0 := (hI.cell (lt_of_cell p0)).trans p0
      have k1 := (hI.cell (lt_of_cell p1)).trans p1
      go_simp
      exact hK _ () _ hI (Below.refl _ _) rfl
    · intro vs g w2 hI hF hR K hK
      simp only [Facts, fill, Act.put, z1, z2, z3, z4, z5, Nat.reduceAdd] at hF hR hK ⊢
      go_simp
      exact hK _ () _ hI (Below.refl _ _) rfl
    · intro vs g w2 hI hF hR K hK
      simp only [Facts, fill, Act.put, z1, z2, z3, z4, z5, Nat.reduceAdd] at hF hR hK ⊢
      obtain ⟨r3, -⟩ := hR
      generalize vs 3 = x3 at *
      subst r3
      go_simp
      exact hK _ () _ hI (Below.refl _ _) rfl
    · intro vs g w2 hI hF hR K hK
      simp only [Facts, fill, Act.put, z1, z2, z3, z4, z5, Nat.reduceAdd] at hF hR hK ⊢
      obtain ⟨r4, -⟩ := hR
      generalize vs 4 = x4 at *
      subst r4
      have k0 := (hI.cell (lt_of_cell q0)).trans q0
      have k1 := (hI.cell (lt_of_cell q1)).trans q1
      go_simp
      exact hK _ () _ hI (Below.refl _ _) rfl
    · intro vs g w2 hI hF hR K hK
      simp only [Facts, fill, Act.put, z1, z2, z3, z4, z5, Nat.reduceAdd] at hF hR hK ⊢
      go_simp
      exact hK _ () _ hI (Below.refl _ _) rfl
    · intro vs g w2 hI hF hR K hK
      simp only [Facts, fill, Act.put, z1, z2, z3, z4, z5, Nat.reduceAdd] at hF hR hK ⊢
      obtain ⟨r6, -⟩ := hR
      generalize vs 6 = x6 at *
      subst r6
      go_simp
      exact hK _ () _ hI (Below.refl _ _) rfl
    · intro vs g w2 hI hF hR K hK
      simp only [Facts, fill, Act.put, z1, z2, z3, z4, z5, Nat.reduceAdd] at hF hR hK ⊢
      obtain ⟨r7, -⟩ := hR
      generalize vs 7 = x7 at *
      subst r7
      have k0 := (hI.cell (lt_of_cell x0)).trans x0
      have k1 := (hI.cell (lt_of_cell x1)).trans x1
      go_simp
      exact hK _ () _ hI (Below.refl _ _) rfl
    · intro vs g w2 hI hF hR K hK
      simp only [Facts, fill, Act.put, z1, z2, z3, z4, z5, Nat.reduceAdd] at hF hR hK ⊢
      obtain ⟨r2, r5, r8, -⟩ := hR
      generalize vs 2 = x2, vs 5 = x5, vs 8 = x8 at *
      subst r2 r5 r8
      go_simp
      refine (orSign_d P Q X w2 (HWT.out.below hI) HP.out HQ.out HX.out r HR.out).mono ?_
      rintro e w3 ⟨rfl, hb⟩
      exact hK _ () _ (hI.trans (hb.mono hI.size)) hb rfl
    · intro vs g w2 hI hF hR K hK
      simp only [Facts, fill, Act.put, z1, z2, z3, z4, z5, Nat.reduceAdd] at hF hR hK ⊢
      obtain ⟨r9, -⟩ := hR
      generalize vs 9 = x9 at *
      subst r9
      go_simp
      first
        | exact hK _ () _ hI (Below.refl _ _) rfl
        | (rw [er1]; exact hK _ () _ hI (Below.refl _ _) rfl)
    · intro vs g w2 hI hF hR K hK
      simp only [Facts, fill, Act.put, z1, z2, z3, z4, z5, Nat.reduceAdd] at hF hR hK ⊢
      obtain ⟨r10, -⟩ := hR
      generalize vs 10 = x10 at *
      subst r10
      go_simp
      first
        | exact hK _ () _ hI (Below.refl _ _) rfl
        | (rw [eu1]; exact hK _ () _ hI (Below.refl _ _) rfl)
    · intro vs g w2 hI hF hR K hK
      simp only [Facts, fill, Act.put, z1, z2, z3, z4, z5, Nat.reduceAdd] at hF hR hK ⊢
      obtain ⟨r11, -⟩ := hR
      generalize vs 11 = x11 at *
      subst r11
      go_simp
      refine (valueOf_any v hv2.1 (by omega) w2).mono ?_
      rintro e w3 ⟨rfl, hb⟩
      exact hK _ () _ (hI.trans (hb.mono hI.size)) hb rfl
    · intro vs g w2 hI hF hR K hK
      simp only [Facts, fill, Act.put, z1, z2, z3, z4, z5, Nat.reduceAdd] at hF hR hK ⊢
      obtain ⟨r12, -⟩ := hR
      generalize vs 12 = x12 at *
      subst r12
      go_simp
      exact hK _ () _ hI (Below.refl _ _) rfl
  case fin =>
    intro vs w2 hI hR
    have r13 := hR 13 (by decide)
    simp only [fill, Act.put, z1, z2, z3, z4, z5] at r13 ⊢
    clear hR
    generalize vs 13 = x13 at *
    subst r13
    refine NoPanic.normal ?_
    go_wp2
    go_ret
    exact ⟨rfl, h0.trans (hI.mono h0.size)⟩
set_option maxHeartbeats 2000000 in
theorem circleValue_c (tv : Value) (vx pts : Int) (hA : Option Addr) (hn hc : Nat) (hrs : List Rg) (RA : Option Addr) (rn rc : Nat) (rs : List Rg) (PA : Option Addr) (pn pc : Nat) (ps : List Pt) (QA : Option Addr) (qn qc : Nat) (qs : List Qr) (p : Bool) (v : Int) (T : Nat → Prop) (w : World) (hw : Wts w) (hr : ReqR w T hA hn hc hrs RA rn rc rs PA pn pc ps QA qn qc qs) (he : encE ⟨⟨2, vx, hrs.map rgK, pts⟩, rs.map rgD, ps, qs⟩ p = 0) (hv : valEw 0 2 rs ps = v) :
    Calls Tryz.prog 63 #[tv, .agg #[.int .i64 2, .int .i64 vx, .slice hA hn hc, .int .i64 pts, .slice RA rn rc, .slice PA pn pc, .slice QA qn qc]] w fun e w' => e = .returned (.int .i64 v) ∧ Below w.heap.size w w' := by
  obtain ⟨W, hW⟩ : ∃ W, W = w.alloc (.cells #[.int .i64 2, .int .i64 vx, .slice hA hn hc, .int .i64 pts, .slice RA rn rc, .slice PA pn pc, .slice QA qn qc] 48) := ⟨_, rfl⟩
  obtain ⟨B, hB⟩ : ∃ b, b = w.heap.size := ⟨_, rfl⟩
  obtain ⟨h0, hsW, g0, g1, g2, g3, g4, g5, g6⟩ := box7 hW
  rw [← hB] at g0 g1 g2 g3 g4 g5 g6
  have HRQ := Lib.hid (hr.next h0)
  have HW := Lib.hid hW
  have HB := Lib.hid hB
  obtain ⟨hpl, hk⟩ := pts_enc he
  have hvs := hk.vs3
  simp only at hvs
  have hpn := hr.plen
  have hpc := hr.pcap
  have HV := Lib.hid hv
  have hrow := HRQ.out.prow
  have hss := HRQ.out.pss
  have HWT := Lib.hid (hw.below h0)
  clear hW hB hr hsW he hk hv
  have hp4 : pn = 4 := by
    have : cntP ⟨2, vx, hrs.map rgK, pts⟩ = 4 := rfl
    rw [this] at hpl; omega
  subst hp4
  obtain ⟨b, o, rfl, -, -, -⟩ := hrow.pt_ (k := 0) (by omega)
  have p01 := hrow.pt2 (k := 0) (by omega)
  have q01 := hrow.pt2 (k := 1) (by omega)
  have x01 := hrow.pt2 (k := 2) (by omega)
  have y01 := hrow.pt2 (k := 3) (by omega)
  rw [Nat.zero_mul, Nat.add_zero] at p01
  rw [Nat.one_mul, show o + 2 + 1 = o + 3 from rfl] at q01
  rw [show o + 2 * 2 = o + 4 from rfl, show o + 4 + 1 = o + 5 from rfl] at x01
  rw [show o + 3 * 2 = o + 6 from rfl, show o + 6 + 1 = o + 7 from rfl] at y01
  obtain ⟨p0, p1⟩ := p01
  obtain ⟨q0, q1⟩ := q01
  obtain ⟨x0, x1⟩ := x01
  obtain ⟨y0, y1⟩ := y01
  have hsg := sgnC_in (Go.Proofs.YthmkllpdkcmccaaGreatDoor.at_ ps 0) (Go.Proofs.YthmkllpdkcmccaaGreatDoor.at_ ps 1) (Go.Proofs.YthmkllpdkcmccaaGreatDoor.at_ ps 2) (Go.Proofs.YthmkllpdkcmccaaGreatDoor.at_ ps 3)
  obtain ⟨r, hrr⟩ : ∃ r, sgnC (Go.Proofs.YthmkllpdkcmccaaGreatDoor.at_ ps 0) (Go.Proofs.YthmkllpdkcmccaaGreatDoor.at_ ps 1) (Go.Proofs.YthmkllpdkcmccaaGreatDoor.at_ ps 2) (Go.Proofs.YthmkllpdkcmccaaGreatDoor.at_ ps 3) = r := ⟨_, rfl⟩
  rw [hrr] at hsg
  have HVR := Lib.hid (show r + 1 = v by rw [← HV.out, ← hrr]; rfl)
  have HR := Lib.hid hrr
  have HP := Lib.hid (hss.ss (k := 0) (by omega))
  have HQ := Lib.hid (hss.ss (k := 1) (by omega))
  have HX := Lib.hid (hss.ss (k := 2) (by omega))
  have HY := Lib.hid (hss.ss (k := 3) (by omega))
  clear hrr
  generalize Go.Proofs.YthmkllpdkcmccaaGreatDoor.at_ ps 0 = P at *
  generalize Go.Proofs.YthmkllpdkcmccaaGreatDoor.at_ ps 1 = Q at *
  generalize Go.Proofs.YthmkllpdkcmccaaGreatDoor.at_ ps 2 = X at *
  generalize Go.Proofs.YthmkllpdkcmccaaGreatDoor.at_ ps 3 = Y at *
  have er1 : IntKind.i64.wrap (r + 1) = v := by rw [wrap_i64' (by omega) (by omega), HVR.out]
  have hv2 : 0 ≤ v ∧ v ≤ 2 := by have := HVR.out; omega
  have eu1 : IntKind.u64.wrap v = v := wrap_u64' (by omega) (by omega)
  clear hrow hss hpl hvs hpn hpc
  go_enter Tryz.func63, Tryz.ntmps63
  go_upto_region 1 with (fail)
  rw [← HW.out, ← HB.out]
  go_upto_region 2 with (fail)
  refine dir_plain (by kernel_rfl) 17 [[], [(8, 0)], [(9, 1)], [], [(11, 3)], [(12, 4)], [], [(14, 6)], [(15, 7)], [], [(17, 9)], [(18, 10)], [(10, 2), (13, 5), (16, 8), (19, 11)], [(20, 12)], [(21, 13)], [(22, 14)], [(23, 15)]] [(8, 0), (9, 1), (10, 2), (11, 3), (12, 4), (13, 5), (14, 6), (15, 7), (16, 8), (17, 9), (18, 10), (19, 11), (20, 12), (21, 13), (22, 14), (23, 15), (4, 16)] [
      (fun z_ _ => z_ = .slice (some ⟨b, o, none⟩) 4 pc),
      (fun z_ _ => z_ = .pointer (some ⟨b, o, none⟩)),
      (fun z_ _ => z_ = .agg #[.int .i64 P.x, .int .i64 P.y]),
      (fun z_ _ => z_ = .slice (some ⟨b, o, none⟩) 4 pc),
      (fun z_ _ => z_ = .pointer (some ⟨b, (o + 2), none⟩)),
      (fun z_ _ => z_ = .agg #[.int .i64 Q.x, .int .i64 Q.y]),
      (fun z_ _ => z_ = .slice (some ⟨b, o, none⟩) 4 pc),
      (fun z_ _ => z_ = .pointer (some ⟨b, (o + 4), none⟩)),
      (fun z_ _ => z_ = .agg #[.int .i64 X.x, .int .i64 X.y]),
      (fun z_ _ => z_ = .slice (some ⟨b, o, none⟩) 4 pc),
      (fun z_ _ => z_ = .pointer (some ⟨b, (o + 6), none⟩)),
      (fun z_ _ => z_ = .agg #[.int .i64 Y.x, .int .i64 Y.y]),
      (fun z_ _ => z_ = .int .i64 r),
      (fun z_ _ => z_ = .int .i64 v),
      (fun z_ _ => z_ = .int .u64 v),
      (fun z_ _ => z_ = .int .i64 v),
      (fun z_ _ => z_ = .int .i64 v)
    ] (by kernel_rfl) (by kernel_rfl) (by kernel_rfl) (by decide) ⟨dstab_eq, dstab_eq, dstab_eq, dstab_eq, dstab_eq, dstab_eq, dstab_eq, dstab_eq, dstab_eq, dstab_eq, dstab_eq, dstab_eq, dstab_eq, dstab_eq, dstab_eq, dstab_eq, dstab_eq, trivial⟩ ?steps ?fin
  case steps =>
    refine ⟨?_, ?_, ?_, ?_, ?_, ?_, ?_, ?_, ?_, ?_, ?_, ?_, ?_, ?_, ?_, ?_, ?_, trivial⟩
    · intro vs g w2 hI hF hR K hK
      simp only [Facts, fill, Act.put, z1, z2, z3, z4, z5, Nat.reduceAdd] at hF hR hK ⊢
      go_simp
      exact hK _ () _ hI (Below.refl _ _) rfl
    · intro vs g w2 hI hF hR K hK
      simp only [Facts, fill, Act.put, z1, z2, z3, z4, z5, Nat.reduceAdd] at hF hR hK ⊢
      obtain ⟨r0, -⟩ := hR
      generalize vs 0 = x0 at *
      subst r0
      go_simp
      exact hK _ () _ hI (Below.refl _ _) rfl
    · intro vs g w2 hI hF hR K hK
      simp only [Facts, fill, Act.put, z1, z2, z3, z4, z5, Nat.reduceAdd] at hF hR hK ⊢
      obtain ⟨r1, -⟩ := hR
      generalize vs 1 = x1 at *
      subst r1
      have k0 := (hI.cell (lt_of_cell p0)).trans p0
      have k1 := (hI.cell (lt_of_cell p1)).trans p1
      go_simp
      exact hK _ () _ hI (Below.refl _ _) rfl
    · intro vs g w2 hI hF hR K hK
      simp only [Facts, fill, Act.put, z1, z2, z3, z4, z5, Nat.reduceAdd] at hF hR hK ⊢
      go_simp
      exact hK _ () _ hI (Below.refl _ _) rfl
    · intro vs g w2 hI hF hR K hK
      simp only [Facts, fill, Act.put, z1, z2, z3, z4, z5, Nat.reduceAdd] at hF hR hK ⊢
      obtain ⟨r3, -⟩ := hR
      generalize vs 3 = x3 at *
      subst r3
      go_simp
      exact hK _ () _ hI (Below.refl _ _) rfl
    · intro vs g w2 hI hF hR K hK
      simp only [Facts, fill, Act.put, z1, z2, z3, z4, z5, Nat.reduceAdd] at hF hR hK ⊢
      obtain ⟨r4, -⟩ := hR
      generalize vs 4 = x4 at *
      subst r4
      have k0 := (hI.cell (lt_of_cell q0)).trans q0
      have k1 := (hI.cell (lt_of_cell q1)).trans q1
      go_simp
      exact hK _ () _ hI (Below.refl _ _) rfl
    · intro vs g w2 hI hF hR K hK
      simp only [Facts, fill, Act.put, z1, z2, z3, z4, z5, Nat.reduceAdd] at hF hR hK ⊢
      go_simp
      exact hK _ () _ hI (Below.refl _ _) rfl
    · intro vs g w2 hI hF hR K hK
      simp only [Facts, fill, Act.put, z1, z2, z3, z4, z5, Nat.reduceAdd] at hF hR hK ⊢
      obtain ⟨r6, -⟩ := hR
      generalize vs 6 = x6 at *
      subst r6
      go_simp
      exact hK _ () _ hI (Below.refl _ _) rfl
    · intro vs g w2 hI hF hR K hK
      simp only [Facts, fill, Act.put, z1, z2, z3, z4, z5, Nat.reduceAdd] at hF hR hK ⊢
      obtain ⟨r7, -⟩ := hR
      generalize vs 7 = x7 at *
      subst r7
      have k0 := (hI.cell (lt_of_cell x0)).trans x0
      have k1 := (hI.cell (lt_of_cell x1)).trans x1
      go_simp
      exact hK _ () _ hI (Below.refl _ _) rfl
    · intro vs g w2 hI hF hR K hK
      simp only [Facts, fill, Act.put, z1, z2, z3, z4, z5, Nat.reduceAdd] at hF hR hK ⊢
      go_simp
      exact hK _ () _ hI (Below.refl _ _) rfl
    · intro vs g w2 hI hF hR K hK
      simp only [Facts, fill, Act.put, z1, z2, z3, z4, z5, Nat.reduceAdd] at hF hR hK ⊢
      obtain ⟨r9, -⟩ := hR
      generalize vs 9 = x9 at *
      subst r9
      go_simp
      exact hK _ () _ hI (Below.refl _ _) rfl
    · intro vs g w2 hI hF hR K hK
      simp only [Facts, fill, Act.put, z1, z2, z3, z4, z5, Nat.reduceAdd] at hF hR hK ⊢
      obtain ⟨r10, -⟩ := hR
      generalize vs 10 = x10 at *
      subst r10
      have k0 := (hI.cell (lt_of_cell y0)).trans y0
      have k1 := (hI.cell (lt_of_cell y1)).trans y1
      go_simp
      exact hK _ () _ hI (Below.refl _ _) rfl
    · intro vs g w2 hI hF hR K hK
      simp only [Facts, fill, Act.put, z1, z2, z3, z4, z5, Nat.reduceAdd] at hF hR hK ⊢
      obtain ⟨r2, r5, r8, r11, -⟩ := hR
      generalize vs 2 = x2, vs 5 = x5, vs 8 = x8, vs 11 = x11 at *
      subst r2 r5 r8 r11
      go_simp
      refine (cirSign_d P Q X Y w2 (HWT.out.below hI) HP.out HQ.out HX.out HY.out r HR.out).mono ?_
      rintro e w3 ⟨rfl, hb⟩
      exact hK _ () _ (hI.trans (hb.mono hI.size)) hb rfl
    · intro vs g w2 hI hF hR K hK
      simp only [Facts, fill, Act.put, z1, z2, z3, z4, z5, Nat.reduceAdd] at hF hR hK ⊢
      obtain ⟨r12, -⟩ := hR
      generalize vs 12 = x12 at *
      subst r12
      go_simp
      first
        | exact hK _ () _ hI (Below.refl _ _) rfl
        | (rw [er1]; exact hK _ () _ hI (Below.refl _ _) rfl)
    · intro vs g w2 hI hF hR K hK
      simp only [Facts, fill, Act.put, z1, z2, z3, z4, z5, Nat.reduceAdd] at hF hR hK ⊢
      obtain ⟨r13, -⟩ := hR
      generalize vs 13 = x13 at *
      subst r13
      go_simp
      first
        | exact hK _ () _ hI (Below.refl _ _) rfl
        | (rw [eu1]; exact hK _ () _ hI (Below.refl _ _) rfl)
    · intro vs g w2 hI hF hR K hK
      simp only [Facts, fill, Act.put, z1, z2, z3, z4, z5, Nat.reduceAdd] at hF hR hK ⊢
      obtain ⟨r14, -⟩ := hR
      generalize vs 14 = x14 at *
      subst r14
      go_simp
      refine (valueOf_any v hv2.1 (by omega) w2).mono ?_
      rintro e w3 ⟨rfl, hb⟩
      exact hK _ () _ (hI.trans (hb.mono hI.size)) hb rfl
    · intro vs g w2 hI hF hR K hK
      simp only [Facts, fill, Act.put, z1, z2, z3, z4, z5, Nat.reduceAdd] at hF hR hK ⊢
      obtain ⟨r15, -⟩ := hR
      generalize vs 15 = x15 at *
      subst r15
      go_simp
      exact hK _ () _ hI (Below.refl _ _) rfl
  case fin =>
    intro vs w2 hI hR
    have r16 := hR 16 (by decide)
    simp only [fill, Act.put, z1, z2, z3, z4, z5] at r16 ⊢
    clear hR
    generalize vs 16 = x16 at *
    subst r16
    refine NoPanic.normal ?_
    go_wp2
    go_ret
    exact ⟨rfl, h0.trans (hI.mono h0.size)⟩
/-- What the functions with a tape promise. -/
def ValP (tv : Value) (evs es : List Ev) (T : Nat → Prop) (v : Int) (w : World) (e : Ending) (w' : World) : Prop := e = .returned (.int .i64 v) ∧ TapeO w' (fun g => T g ∨ w.heap.size ≤ g) tv (addT tv evs es) ∧ Moved T w w'
set_option maxHeartbeats 2000000 in
theorem convexValue_c (q : Int) (tv : Value) (evs : List Ev) (T T0 : Nat → Prop) (vx pts : Int) (hA : Option Addr) (hn hc : Nat) (hrs : List Rg) (RA : Option Addr) (rn rc : Nat) (rs : List Rg) (PA : Option Addr) (pn pc : Nat) (ps : List Pt) (QA : Option Addr) (qn qc : Nat) (qs : List Qr) (p : Bool) (v : Int) (w : World) (hw : ∀ W, Moved T w W → WtsC q W) (ht : TapeO w T tv evs) (hev : evs.length ≤ 400000) (hr : ReqR w T0 hA hn hc hrs RA rn rc rs PA pn pc ps QA qn qc qs) (hQT : ∀ b, T0 b → ¬ T b) (he : encE ⟨⟨3, vx, hrs.map rgK, pts⟩, rs.map rgD, ps, qs⟩ p = 0) (hv : valEw q 3 rs ps = v) :
    Calls Tryz.prog 64 #[tv, .agg #[.int .i64 3, .int .i64 vx, .slice hA hn hc, .int .i64 pts, .slice RA rn rc, .slice PA pn pc, .slice QA qn qc]] w (ValP tv evs (evE 3 vx (hrs.map rgK)) T v w) := by
  obtain ⟨tp, rfl⟩ : ∃ tp, tv = .pointer tp := by rcases ht with ⟨rfl, _⟩ | ⟨tb, rfl, _⟩ <;> exact ⟨_, rfl⟩
  obtain ⟨W, hW⟩ : ∃ W, W = w.alloc (.cells #[.int .i64 3, .int .i64 vx, .slice hA hn hc, .int .i64 pts, .slice RA rn rc, .slice PA pn pc, .slice QA qn qc] 48) := ⟨_, rfl⟩
  obtain ⟨B, hB⟩ : ∃ b, b = w.heap.size := ⟨_, rfl⟩
  obtain ⟨h0, hsW, g0, g1, g2, g3, g4, g5, g6⟩ := box7 hW
  rw [← hB] at g0 g1 g2 g3 g4 g5 g6
  have HRQ := Lib.hid (hr.next h0)
  have HW := Lib.hid hW
  have HB := Lib.hid hB
  obtain ⟨hpl, hk⟩ := pts_enc he
  have hvs := hk.vs3
  simp only at hvs
  have hpn := hr.plen
  have hpc := hr.pcap
  have HV := Lib.hid hv
  have hrow := HRQ.out.prow
  have hss := HRQ.out.pss
  clear hW hB hr hsW he hk hv
  obtain ⟨M, hM⟩ : ∃ M, pn = M + 1 := ⟨pn - 1, by
    have h : cntP ⟨3, vx, hrs.map rgK, pts⟩ = vx + 1 := rfl
    rw [h] at hpl
    have := hvs trivial
    omega⟩
  subst hM
  have h3 : cntP ⟨3, vx, hrs.map rgK, pts⟩ = vx + 1 := rfl
  rw [h3] at hpl
  have hvs3 := hvs trivial
  have hM64 : M ≤ 64 := by omega
  have hvM : vx.toNat = M := by omega
  obtain ⟨b, o, rfl, -, -, -⟩ := hrow.pt_ (k := 0) (by omega)
  obtain ⟨p0, p1⟩ := hrow.pt2 (k := M) (by omega)
  have hrowT := Lib.hid (hrow.take M)
  have hlenT : M = (ps.take M).length := by rw [List.length_take]; omega
  have hssT : SsP (ps.take M) := fun q hq => hss q (List.mem_of_mem_take hq)
  have HP := Lib.hid (hss.ss (k := M) (by omega))
  obtain ⟨r, hrr⟩ : ∃ r, convV (ps.take M) (Go.Proofs.YthmkllpdkcmccaaGreatDoor.at_ ps M) = r := ⟨_, rfl⟩
  have HVR := Lib.hid (show r = v by rw [← HV.out, ← hrr]; show _ = convV (ps.take (ps.length - 1)) (Go.Proofs.YthmkllpdkcmccaaGreatDoor.at_ ps (ps.length - 1)); rw [← hpn]; rfl)
  have HR := Lib.hid hrr
  have HTT := Lib.hid hlenT
  have HE := Lib.hid (show addT (.pointer tp) evs (evE 3 vx (hrs.map rgK)) = addT (.pointer tp) evs (validE M ++ locateE M) by rw [evE_3, hvM])
  have hMp : (M : Int) ≤ pc := by omega
  have hMp2 : M ≤ pc := by omega
  clear hrr hlenT hvM h3 hvs3
  generalize Go.Proofs.YthmkllpdkcmccaaGreatDoor.at_ ps M = P at *
  generalize ps.take M = L at *
  have es : IntKind.i64.wrap (((M + 1 : Nat) : Int) - 1) = (M : Int) := by rw [wrap_i64' (by omega) (by omega)]; omega
  have es2 : IntKind.i64.wrap ((M : Int) + 1 - 1) = (M : Int) := by rw [wrap_i64' (by omega) (by omega)]; omega
  have es3 : IntKind.i64.wrap (M : Int) = (M : Int) := wrap_i64' (by omega) (by omega)
  have hM1 : M < M + 1 := by omega
  have hM2 : (M : Int) < ((M + 1 : Nat) : Int) := by omega
  have hM3 : (M : Int) < (M : Int) + 1 := by omega
  have HT0 := Lib.hid ht
  have HWT := Lib.hid hw
  clear hrow hss hpl hvs hpn hpc ht
  go_enter Tryz.func64, Tryz.ntmps64
  go_upto_region 1 with (fail)
  rw [← HW.out, ← HB.out]
  go_upto_region 2 with (fail)
  refine dir_plain (by kernel_rfl) 10 [[], [], [(11, 1)], [], [(12, 2), (13, 3)], [], [(15, 5)], [], [(16, 6), (17, 7)], [(18, 8)], [(10, 0), (14, 4), (19, 9)], [(20, 10)]] [(10, 0), (11, 1), (12, 2), (13, 3), (14, 4), (15, 5), (16, 6), (17, 7), (18, 8), (19, 9)] [
      (fun z_ _ => z_ = .pointer tp),
      (fun z_ _ => z_ = .pointer (some ⟨B, 5, none⟩)),
      (fun z_ _ => z_ = .slice (some ⟨b, o, none⟩) (M + 1) pc),
      (fun z_ _ => z_ = .int .i64 (M : Int)),
      (fun z_ _ => z_ = .slice (some ⟨b, o, none⟩) M pc),
      (fun z_ _ => z_ = .pointer (some ⟨B, 5, none⟩)),
      (fun z_ _ => z_ = .slice (some ⟨b, o, none⟩) (M + 1) pc),
      (fun z_ _ => z_ = .int .i64 (M : Int)),
      (fun z_ _ => z_ = .pointer (some ⟨b, (o + M * 2), none⟩)),
      (fun z_ _ => z_ = .agg #[.int .i64 P.x, .int .i64 P.y])
    ] (by kernel_rfl) (by kernel_rfl) (by kernel_rfl) (by decide) ⟨dstab_eq, dstab_eq, dstab_eq, dstab_eq, dstab_eq, dstab_eq, dstab_eq, dstab_eq, dstab_eq, dstab_eq, trivial⟩ ?steps ?fin
  case steps =>
    refine ⟨?_, ?_, ?_, ?_, ?_, ?_, ?_, ?_, ?_, ?_, trivial⟩
    · intro vs g w2 hI hF hR K hK
      simp only [Facts, fill, Act.put, z1, z2, z3, z4, z5, Nat.reduceAdd] at hF hR hK ⊢
      go_simp
      exact hK _ () _ hI (Below.refl _ _) rfl
    · intro vs g w2 hI hF hR K hK
      simp only [Facts, fill, Act.put, z1, z2, z3, z4, z5, Nat.reduceAdd] at hF hR hK ⊢
      go_simp
      exact hK _ () _ hI (Below.refl _ _) rfl
    · intro vs g w2 hI hF hR K hK
      simp only [Facts, fill, Act.put, z1, z2, z3, z4, z5, Nat.reduceAdd] at hF hR hK ⊢
      obtain ⟨r1, -⟩ := hR
      generalize vs 1 = x1 at *
      subst r1
      have k0 := (hI.cell (lt_of_cell g5)).trans g5
      go_simp
      exact hK _ () _ hI (Below.refl _ _) rfl
    · intro vs g w2 hI hF hR K hK
      simp only [Facts, fill, Act.put, z1, z2, z3, z4, z5, Nat.reduceAdd] at hF hR hK ⊢
      go_simp
      exact hK _ () _ hI (Below.refl _ _) rfl
    · intro vs g w2 hI hF hR K hK
      simp only [Facts, fill, Act.put, z1, z2, z3, z4, z5, Nat.reduceAdd] at hF hR hK ⊢
      obtain ⟨r2, r3, -⟩ := hR
      generalize vs 2 = x2, vs 3 = x3 at *
      subst r2 r3
      have hb9 := hMp
      have hb8 := hMp2
      go_simp
      exact hK _ () _ hI (Below.refl _ _) rfl
    · intro vs g w2 hI hF hR K hK
      simp only [Facts, fill, Act.put, z1, z2, z3, z4, z5, Nat.reduceAdd] at hF hR hK ⊢
      go_simp
      exact hK _ () _ hI (Below.refl _ _) rfl
    · intro vs g w2 hI hF hR K hK
      simp only [Facts, fill, Act.put, z1, z2, z3, z4, z5, Nat.reduceAdd] at hF hR hK ⊢
      obtain ⟨r5, -⟩ := hR
      generalize vs 5 = x5 at *
      subst r5
      have k0 := (hI.cell (lt_of_cell g5)).trans g5
      go_simp
      exact hK _ () _ hI (Below.refl _ _) rfl
    · intro vs g w2 hI hF hR K hK
      simp only [Facts, fill, Act.put, z1, z2, z3, z4, z5, Nat.reduceAdd] at hF hR hK ⊢
      go_simp
      exact hK _ () _ hI (Below.refl _ _) rfl
    · intro vs g w2 hI hF hR K hK
      simp only [Facts, fill, Act.put, z1, z2, z3, z4, z5, Nat.reduceAdd] at hF hR hK ⊢
      obtain ⟨r6, r7, -⟩ := hR
      generalize vs 6 = x6, vs 7 = x7 at *
      subst r6 r7
      have hb9 := hM1
      have hb8 := hM2
      have hb7 := hM3
      go_simp
      exact hK _ () _ hI (Below.refl _ _) rfl
    · intro vs g w2 hI hF hR K hK
      simp only [Facts, fill, Act.put, z1, z2, z3, z4, z5, Nat.reduceAdd] at hF hR hK ⊢
      obtain ⟨r8, -⟩ := hR
      generalize vs 8 = x8 at *
      subst r8
      have k0 := (hI.cell (lt_of_cell p0)).trans p0
      have k1 := (hI.cell (lt_of_cell p1)).trans p1
      go_simp
      exact hK _ () _ hI (Below.refl _ _) rfl
  case fin =>
    intro vs w2 hI hR
    have r0 := hR 0 (by decide)
    have r4 := hR 4 (by decide)
    have r9 := hR 9 (by decide)
    simp only [fill, Act.put, z1, z2, z3, z4, z5] at r0 r4 r9 ⊢
    clear hR
    generalize vs 0 = x0 at *
    generalize vs 4 = x4 at *
    generalize vs 9 = x9 at *
    subst r0 r4 r9
    have hI2 := h0.trans (hI.mono h0.size)
    have hI3 : Below w.heap.size W w2 := hI.mono h0.size
    refine wpOps_step rfl rfl ?_
    go_simp
    refine (engConvex_c q (.pointer tp) evs T T0 (some ⟨b, o, none⟩) M pc L P r w2 (fun W2 hm => HWT.out W2 ((Moved.of_below hI2).trans hm)) (HT0.out.next hI2) (by omega) (hrowT.out.next hI) hQT HTT.out (by omega) hssT HP.out HR.out).mono ?_
    rintro e w6 ⟨rfl, ht6, hm6⟩
    have hsz := hI2.size
    have hsz2 := h0.size
    refine wpOps_step rfl rfl ?_
    go_simp
    refine NoPanic.normal ?_
    go_wp2
    go_ret
    refine ⟨by rw [HVR.out]; rfl, ?_, (Moved.of_below hI2).trans hm6⟩
    rw [HE.out]
    exact ht6.imp fun g hg => hg.elim .inl fun h => .inr (by omega)
set_option maxHeartbeats 2000000 in
theorem fenceValue_c (q : Int) (tv : Value) (evs : List Ev) (T T0 : Nat → Prop) (vx pts : Int) (hA : Option Addr) (hn hc : Nat) (hrs : List Rg) (RA : Option Addr) (rn rc : Nat) (rs : List Rg) (PA : Option Addr) (pn pc : Nat) (ps : List Pt) (QA : Option Addr) (qn qc : Nat) (qs : List Qr) (p : Bool) (v : Int) (w : World) (hw : ∀ W, Moved T w W → WtsC q W) (ht : TapeO w T tv evs) (hev : evs.length ≤ 400000) (hr : ReqR w T0 hA hn hc hrs RA rn rc rs PA pn pc ps QA qn qc qs) (hQT : ∀ b, T0 b → ¬ T b) (hl : rn ≤ 1000000) (hkk : rs.map rgK = hrs.map rgK) (hck : checkF rs = 0) (he : encE ⟨⟨4, vx, hrs.map rgK, pts⟩, rs.map rgD, ps, qs⟩ p = 0) (hv : valEw q 4 rs ps = v) :
    Calls Tryz.prog 65 #[tv, .agg #[.int .i64 4, .int .i64 vx, .slice hA hn hc, .int .i64 pts, .slice RA rn rc, .slice PA pn pc, .slice QA qn qc]] w (ValP tv evs (evE 4 vx (hrs.map rgK)) T v w) := by
  obtain ⟨tp, rfl⟩ : ∃ tp, tv = .pointer tp := by rcases ht with ⟨rfl, _⟩ | ⟨tb, rfl, _⟩ <;> exact ⟨_, rfl⟩
  obtain ⟨W, hW⟩ : ∃ W, W = w.alloc (.cells #[.int .i64 4, .int .i64 vx, .slice hA hn hc, .int .i64 pts, .slice RA rn rc, .slice PA pn pc, .slice QA qn qc] 48) := ⟨_, rfl⟩
  obtain ⟨B, hB⟩ : ∃ b, b = w.heap.size := ⟨_, rfl⟩
  obtain ⟨h0, hsW, g0, g1, g2, g3, g4, g5, g6⟩ := box7 hW
  rw [← hB] at g0 g1 g2 g3 g4 g5 g6
  have HRQ := Lib.hid (hr.next h0)
  have HW := Lib.hid hW
  have HB := Lib.hid hB
  obtain ⟨hpl, hk⟩ := pts_enc he
  have hvs := hk.vs3
  simp only at hvs
  have hpn := hr.plen
  have hpc := hr.pcap
  have HV := Lib.hid hv
  have hrow := HRQ.out.prow
  have hss := HRQ.out.pss
  clear hW hB hr hsW he hk hv
  have hp1' : pn = 1 := by
    have : cntP ⟨4, vx, hrs.map rgK, pts⟩ = 1 := rfl
    rw [this] at hpl; omega
  subst hp1'
  obtain ⟨b, o, rfl, -, -, -⟩ := hrow.pt_ (k := 0) (by omega)
  have p01 := hrow.pt2 (k := 0) (by omega)
  rw [Nat.zero_mul, Nat.add_zero] at p01
  obtain ⟨p0, p1⟩ := p01
  obtain ⟨r, hrr⟩ : ∃ r, fencVw q rs (Go.Proofs.YthmkllpdkcmccaaGreatDoor.at_ ps 0) = r := ⟨_, rfl⟩
  have HVR := Lib.hid (show r = v by rw [← HV.out, ← hrr]; rfl)
  have HR := Lib.hid hrr
  have HP := Lib.hid (hss.ss (k := 0) (by omega))
  have HE := Lib.hid (show addT (.pointer tp) evs (evE 4 vx (hrs.map rgK)) = addT (.pointer tp) evs (validFE rs ++ memberFE rs) by
    rw [evE_4 hkk]; unfold validFE memberFE; rw [if_pos hck, if_pos hck])
  clear hrr
  generalize Go.Proofs.YthmkllpdkcmccaaGreatDoor.at_ ps 0 = P at *
  have HT0 := Lib.hid ht
  have HWT := Lib.hid hw
  have HK1 := Lib.hid hkk
  have HK2 := Lib.hid hck
  clear hrow hss hpl hvs hpn hpc ht hkk hck
  go_enter Tryz.func65, Tryz.ntmps65
  go_upto_region 1 with (fail)
  rw [← HW.out, ← HB.out]
  refine dir_plain (by kernel_rfl) 7 [[], [], [(6, 1)], [], [(8, 3)], [(9, 4)], [(10, 5)], [(5, 0), (7, 2), (11, 6)], [(12, 7)]] [(5, 0), (6, 1), (7, 2), (8, 3), (9, 4), (10, 5), (11, 6)] [
      (fun z_ _ => z_ = .pointer tp),
      (fun z_ _ => z_ = .pointer (some ⟨B, 4, none⟩)),
      (fun z_ _ => z_ = .slice RA rn rc),
      (fun z_ _ => z_ = .pointer (some ⟨B, 5, none⟩)),
      (fun z_ _ => z_ = .slice (some ⟨b, o, none⟩) 1 pc),
      (fun z_ _ => z_ = .pointer (some ⟨b, o, none⟩)),
      (fun z_ _ => z_ = .agg #[.int .i64 P.x, .int .i64 P.y])
    ] (by kernel_rfl) (by kernel_rfl) (by kernel_rfl) (by decide) ⟨dstab_eq, dstab_eq, dstab_eq, dstab_eq, dstab_eq, dstab_eq, dstab_eq, trivial⟩ ?steps ?fin
  case steps =>
    refine ⟨?_, ?_, ?_, ?_, ?_, ?_, ?_, trivial⟩
    · intro vs g w2 hI hF hR K hK
      simp only [Facts, fill, Act.put, z1, z2, z3, z4, z5, Nat.reduceAdd] at hF hR hK ⊢
      go_simp
      exact hK _ () _ hI (Below.refl _ _) rfl
    · intro vs g w2 hI hF hR K hK
      simp only [Facts, fill, Act.put, z1, z2, z3, z4, z5, Nat.reduceAdd] at hF hR hK ⊢
      go_simp
      exact hK _ () _ hI (Below.refl _ _) rfl
    · intro vs g w2 hI hF hR K hK
      simp only [Facts, fill, Act.put, z1, z2, z3, z4, z5, Nat.reduceAdd] at hF hR hK ⊢
      obtain ⟨r1, -⟩ := hR
      generalize vs 1 = x1 at *
      subst r1
      have k0 := (hI.cell (lt_of_cell g4)).trans g4
      go_simp
      exact hK _ () _ hI (Below.refl _ _) rfl
    · intro vs g w2 hI hF hR K hK
      simp only [Facts, fill, Act.put, z1, z2, z3, z4, z5, Nat.reduceAdd] at hF hR hK ⊢
      go_simp
      exact hK _ () _ hI (Below.refl _ _) rfl
    · intro vs g w2 hI hF hR K hK
      simp only [Facts, fill, Act.put, z1, z2, z3, z4, z5, Nat.reduceAdd] at hF hR hK ⊢
      obtain ⟨r3, -⟩ := hR
      generalize vs 3 = x3 at *
      subst r3
      have k0 := (hI.cell (lt_of_cell g5)).trans g5
      go_simp
      exact hK _ () _ hI (Below.refl _ _) rfl
    · intro vs g w2 hI hF hR K hK
      simp only [Facts, fill, Act.put, z1, z2, z3, z4, z5, Nat.reduceAdd] at hF hR hK ⊢
      obtain ⟨r4, -⟩ := hR
      generalize vs 4 = x4 at *
      subst r4
      go_simp
      exact hK _ () _ hI (Below.refl _ _) rfl
    · intro vs g w2 hI hF hR K hK
      simp only [Facts, fill, Act.put, z1, z2, z3, z4, z5, Nat.reduceAdd] at hF hR hK ⊢
      obtain ⟨r5, -⟩ := hR
      generalize vs 5 = x5 at *
      subst r5
      have k0 := (hI.cell (lt_of_cell p0)).trans p0
      have k1 := (hI.cell (lt_of_cell p1)).trans p1
      go_simp
      exact hK _ () _ hI (Below.refl _ _) rfl
  case fin =>
    intro vs w2 hI hR
    have r0 := hR 0 (by decide)
    have r2 := hR 2 (by decide)
    have r6 := hR 6 (by decide)
    simp only [fill, Act.put, z1, z2, z3, z4, z5] at r0 r2 r6 ⊢
    clear hR
    generalize vs 0 = x0 at *
    generalize vs 2 = x2 at *
    generalize vs 6 = x6 at *
    subst r0 r2 r6
    have hI2 := h0.trans (hI.mono h0.size)
    have hI3 : Below w.heap.size W w2 := hI.mono h0.size
    refine wpOps_step rfl rfl ?_
    go_simp
    refine (engFence_c q (.pointer tp) evs T T0 RA rn rc rs P r w2 (fun W2 hm => HWT.out W2 ((Moved.of_below hI2).trans hm)) (HT0.out.next hI2) hev (HRQ.out.rrow.next hI) (HRQ.out.rok.next hI) hQT HRQ.out.rlen hl HP.out HR.out).mono ?_
    rintro e w6 ⟨rfl, ht6, hm6⟩
    have hsz := hI2.size
    have hsz2 := h0.size
    refine wpOps_step rfl rfl ?_
    go_simp
    refine NoPanic.normal ?_
    go_wp2
    go_ret
    refine ⟨by rw [HVR.out]; rfl, ?_, (Moved.of_below hI2).trans hm6⟩
    rw [HE.out]
    exact ht6.imp fun g hg => hg.elim .inl fun h => .inr (by omega)
end Go.Proofs.YthmkllpdkcmccaaGreatDoor
namespace Go.Proofs.YthmkllpdkcmccaaGreatDoor
open Go.RowKit
set_option maxRecDepth 100000
set_option linter.unusedVariables false
set_option linter.unusedSimpArgs false

theorem ReqR.now {w : World} {T : Nat → Prop} {hA : Option Addr} {hn hc : Nat} {hrs : List Rg} {RA : Option Addr} {rn rc : Nat} {rs : List Rg} {PA : Option Addr} {pn pc : Nat} {ps : List Pt} {QA : Option Addr} {qn qc : Nat} {qs : List Qr} (h : ReqR w T hA hn hc hrs RA rn rc rs PA pn pc ps QA qn qc qs) :
    ReqR w (fun b => T b ∧ b < w.heap.size) hA hn hc hrs RA rn rc rs PA pn pc ps QA qn qc qs :=
  ⟨h.hrow.now (fun _ => Nat.succ_pos 2), h.hlen, h.rrow.now (fun _ => Nat.succ_pos 2), h.rlen, h.rok.now, h.prow.now (fun _ => Nat.succ_pos 1), h.plen, h.pss, h.qrow.now (fun _ => Nat.succ_pos 2), h.qlen, h.qok, h.pcap⟩
theorem ReqR.imp {w : World} {T U : Nat → Prop} {hA : Option Addr} {hn hc : Nat} {hrs : List Rg} {RA : Option Addr} {rn rc : Nat} {rs : List Rg} {PA : Option Addr} {pn pc : Nat} {ps : List Pt} {QA : Option Addr} {qn qc : Nat} {qs : List Qr} (h : ReqR w T hA hn hc hrs RA rn rc rs PA pn pc ps QA qn qc qs) (hTU : ∀ b, T b → U b) :
    ReqR w U hA hn hc hrs RA rn rc rs PA pn pc ps QA qn qc qs :=
  ⟨h.hrow.imp hTU, h.hlen, h.rrow.imp hTU, h.rlen, h.rok.imp hTU, h.prow.imp hTU, h.plen, h.pss, h.qrow.imp hTU, h.qlen, h.qok, h.pcap⟩
/-- What is found in the map. -/
def OpIs (op : Int) (s : ByteArray) (f : Value) (ok : Bool) : Prop := ∀ (mb : Nat) (w : World), w.heap[mb]? = some (.map opMap 4) → (Instr.lookup 81 (.map (some mb)) (.int .i64 op) true).run Tryz.prog w = .ok (.tuple #[.agg #[.string s, f], .bool ok]) w
theorem op_cases (op : Int) (h1 : 1 ≤ op) (h5 : op ≤ 5) : ∃ s f ok, OpIs op s f ok ∧ ((op = 1 ∧ ok = true ∧ f = .func (.func 62) #[] #[]) ∨ (op = 2 ∧ ok = true ∧ f = .func (.func 63) #[] #[]) ∨ (op = 3 ∧ ok = true ∧ f = .func (.func 64) #[] #[]) ∨ (op = 4 ∧ ok = true ∧ f = .func (.func 65) #[] #[]) ∨ (op = 5 ∧ ok = false ∧ f = .nilFunc)) := by
  have : op = 1 ∨ op = 2 ∨ op = 3 ∨ op = 4 ∨ op = 5 := by omega
  rcases this with rfl | rfl | rfl | rfl | rfl
  · exact ⟨_, _, true, fun mb w hb => map_has under_map under_int w mb 4 opMap 1 0 _ hb rfl, .inl ⟨rfl, rfl, rfl⟩⟩
  · exact ⟨_, _, true, fun mb w hb => map_has under_map under_int w mb 4 opMap 2 1 _ hb rfl, .inr (.inl ⟨rfl, rfl, rfl⟩)⟩
  · exact ⟨_, _, true, fun mb w hb => map_has under_map under_int w mb 4 opMap 3 2 _ hb rfl, .inr (.inr (.inl ⟨rfl, rfl, rfl⟩))⟩
  · exact ⟨_, _, true, fun mb w hb => map_has under_map under_int w mb 4 opMap 4 3 _ hb rfl, .inr (.inr (.inr (.inl ⟨rfl, rfl, rfl⟩)))⟩
  · exact ⟨_, _, false, fun mb w hb => map_hasnt under_map under_int w mb 4 opMap 5 _ (zero_oper w) hb rfl, .inr (.inr (.inr (.inr ⟨rfl, rfl, rfl⟩)))⟩
theorem st_func {P : Program} {w : World} {a : Addr} {m : Mode} (fn : Fn) (x y : Array Value) : (store a (.func fn x y) m).run P w = stored P w a (.func fn x y) m := run_store P w a _ m rfl
theorem st_nil {P : Program} {w : World} {a : Addr} {m : Mode} : (store a .nilFunc m).run P w = stored P w a .nilFunc m := run_store P w a _ m rfl
attribute [local go_sem] st_func st_nil
/-- The map, off the boxes. -/
def MapIs (v : Value) (g : Gh) (w : World) : Prop := ∃ mb, v = .map (some mb) ∧ w.heap[mb]? = some (.map opMap 4) ∧ Off g mb
theorem mapIs_firm : Firm MapIs := fun v g w g' w' ⟨mb, e, hb, ho⟩ hk => by
  have h := hk mb (Array.getElem?_eq_some_iff.1 hb).1 ho
  exact ⟨mb, e, h.2.trans hb, h.1⟩
set_option maxHeartbeats 4000000 in
theorem engAnswer_c (q : Int) (tv : Value) (evs : List Ev) (T Q : Nat → Prop) (op vx pts : Int) (hA : Option Addr) (hn hc : Nat) (hrs : List Rg) (RA : Option Addr) (rn rc : Nat) (rs : List Rg) (PA : Option Addr) (pn pc : Nat) (ps : List Pt) (QA : Option Addr) (qn qc : Nat) (qs : List Qr) (er : Int) (r : Int × Int) (w : World) (hw : ∀ W, Moved T w W → WtsC q W) (ht : TapeO w T tv evs) (hev : evs.length ≤ 400000)
    (hr : ReqR w Q hA hn hc hrs RA rn rc rs PA pn pc ps QA qn qc qs) (hQT : ∀ b, Q b → ¬ T b) (hN : ReqN op vx pts hn rn pn qn hrs) (he : encE ⟨⟨op, vx, hrs.map rgK, pts⟩, rs.map rgD, ps, qs⟩ (rgP hrs) = er) (ha : ansVw q er op rs ps = r) :
    Calls Tryz.prog 16 #[tv, .agg #[.int .i64 op, .int .i64 vx, .slice hA hn hc, .int .i64 pts, .slice RA rn rc, .slice PA pn pc, .slice QA qn qc]] w fun e w' => GivesV r.1 r.2 e ∧ TapeO w' (fun g => T g ∨ w.heap.size ≤ g) tv (addT tv evs (ansE er op vx (hrs.map rgK))) ∧ Moved T w w' := by
  obtain ⟨tp, rfl⟩ : ∃ tp, tv = .pointer tp := by rcases ht with ⟨rfl, _⟩ | ⟨tb, rfl, _⟩ <;> exact ⟨_, rfl⟩
  obtain ⟨W1, hW1⟩ : ∃ W, W = w.alloc (.cells #[.int .i64 op, .int .i64 vx, .slice hA hn hc, .int .i64 pts, .slice RA rn rc, .slice PA pn pc, .slice QA qn qc] 48) := ⟨_, rfl⟩
  obtain ⟨B, hB⟩ : ∃ b, b = w.heap.size := ⟨_, rfl⟩
  obtain ⟨h1, hsW, g0, g1, g2, g3, g4, g5, g6⟩ := box7 hW1
  rw [← hB] at g0 g1 g2 g3 g4 g5 g6
  obtain ⟨W, hW⟩ : ∃ W, W = W1.alloc (.cells #[.int .i64 0, .int .i64 0, .slice none 0 0] 44) := ⟨_, rfl⟩
  have h12 : Below W1.heap.size W1 W := by rw [hW]; exact (Below.refl _ _).alloc (Nat.le_refl _) _
  have h0 := h1.trans (h12.mono h1.size)
  have hbx : BoxT W (B + 1) (.int .i64 0) (.int .i64 0) (.slice none 0 0) 44 := by
    rw [hW, hB, ← hsW]; exact heap_alloc_new W1 _
  have HG := Lib.hid ((ReqAt.mk g0 g1 g2 g3 g4 g5 g6).next h12 (by omega))
  have HRQ := Lib.hid (hr.now.next h0)
  have hBW : B < W.heap.size := by have := h12.size; omega
  have hbw : w.heap.size ≤ B + 1 := by omega
  have HBE := Lib.hid hB
  have HW := Lib.hid (show (w.alloc (.cells #[.int .i64 op, .int .i64 vx, .slice hA hn hc, .int .i64 pts, .slice RA rn rc, .slice PA pn pc, .slice QA qn qc] 48)).alloc (.cells #[.int .i64 0, .int .i64 0, .slice none 0 0] 44) = W by rw [hW, hW1])
  have HB := Lib.hid hB
  have HN := Lib.hid hN
  have HE := Lib.hid he
  have HAV := Lib.hid ha
  have HT := Lib.hid ht
  have HWT := Lib.hid hw
  have HQT := Lib.hid hQT
  clear hW hW1 hB hr hN he ha ht hw hQT hsW g0 g1 g2 g3 g4 g5 g6 h12 h1
  go_enter Tryz.func16, Tryz.ntmps16
  go_upto_region 1 with (fail)
  rw [HW.out, ← HB.out]
  obtain ⟨k0, k1, k2, k3, k4, k5, k6⟩ := HG.out
  go_wp2_with (fail)
  refine (codEncode_c op vx pts hA hn hc hrs RA rn rc rs PA pn pc ps QA qn qc qs er _ W (HWT.out W (.of_below h0)).wts (HRQ.out.imp fun g hg => Nat.lt_of_lt_of_le hg.2 h0.size) HN.out.len HN.out.num HN.out.wf HE.out rfl).mono ?_
  rintro e w2 ⟨v2, rfl, hown2, hb2⟩
  have q2 := h0.trans (hb2.mono h0.size)
  have hbx2 := hbx.same (hb2.block (B + 1) hbx.lt)
  obtain ⟨⟨x0, x1, x2⟩, f0, f1, f2⟩ := hbx2.at_
  have HBX := Lib.hid hbx2
  clear k0 k1 k2 k3 k4 k5 k6 hown2 hbx hbx2
  by_cases he0 : er = 0
  · subst he0
    obtain ⟨k0, k1, k2, k3, k4, k5, k6⟩ := HG.out.next hb2 hBW
    obtain ⟨hpl, hk⟩ := pts_enc HE.out
    have hop1 := hk.op
    simp only at hop1
    obtain ⟨s, f, ok, hlk, hcase⟩ := op_cases op hop1.1 hop1.2
    have HLK := Lib.hid hlk
    have HCA := Lib.hid hcase
    have HFF := Lib.hid (show (∃ n, f = .func (.func n) #[] #[]) ∨ f = .nilFunc by rcases hcase with ⟨_, _, h⟩ | ⟨_, _, h⟩ | ⟨_, _, h⟩ | ⟨_, _, h⟩ | ⟨_, _, h⟩ <;> first | exact .inl ⟨_, h⟩ | exact .inr h)
    have HOK : Ctx.Ok ⟨w2, w2, fun _ => none⟩ := Ctx.ok_none (Below.refl w2.heap.size w2)
    clear hlk hcase hpl hk hop1 x0 x1 x2 f0 f1 f2
    go_upto_region 4 with (fail)
    refine box_plan (c := ⟨w2, w2, fun _ => none⟩) HOK (by kernel_rfl) [[], [], [(21, 1)], [(22, 2)], [(20, 0), (23, 3)], [(24, 4)], [(19, 5)], [(19, 5)], [], [(8, 8), (25, 6)], [(26, 7)]] [(20, 0), (21, 1), (22, 2), (23, 3), (24, 4), (19, 5), (25, 6), (26, 7), (8, 8), (9, 10)] [
        MapIs,
        (fun v _ _ => v = .pointer (some ⟨B, 0, none⟩)),
        (fun v _ _ => v = .pointer (some ⟨B, 0, none⟩)),
        (fun v _ _ => v = .int .i64 op),
        (fun v _ _ => v = .tuple #[.agg #[.string s, f], .bool ok]),
        (fun v _ _ => v = .tuple #[.agg #[.string s, f], .bool ok]),
        (fun v _ _ => v = .agg #[.string s, f]),
        (fun v _ _ => v = .bool ok),
        PtrR 8 2,
        (fun _ g w => BoxR 8 (fun u _ _ => u = .agg #[.string s, f]) g w),
        (fun v _ _ => v = .bool ok)
      ] (fun i => match i with | 8 => some 9 | _ => none) (by kernel_rfl) (by kernel_rfl) ⟨stab_firm mapIs_firm, stab_eq, stab_eq, stab_eq, stab_eq, stab_eq, stab_eq, stab_eq, stab_ptr, stab_box (firm_eq _) rfl, stab_eq, trivial⟩ ?steps ?fin
    case steps =>
      refine ⟨?_, ?_, ?_, ?_, ?_, ?_, ?_, ?_, ?_, ?_, ?_, trivial⟩
      · intro vs g w3 hI hF hR K hK
        simp only [Facts, fill, Act.put, z1, z2, z3, z4, z5, Nat.reduceAdd] at hF hR hK ⊢
        go_simp
        refine (operations_any w3).mono ?_
        rintro e w4 ⟨⟨mb, rfl, hmb, hge⟩, hb⟩
        exact hK _ _ _ (hI.call hb) (Step.call hI hb) ⟨mb, rfl, hmb, hI.offs mb hge⟩
      · intro vs g w3 hI hF hR K hK
        simp only [Facts, fill, Act.put, z1, z2, z3, z4, z5, Nat.reduceAdd] at hF hR hK ⊢
        go_simp
        exact hK _ _ _ hI (Step.refl hI) rfl
      · intro vs g w3 hI hF hR K hK
        simp only [Facts, fill, Act.put, z1, z2, z3, z4, z5, Nat.reduceAdd] at hF hR hK ⊢
        obtain ⟨r1, -⟩ := hR
        generalize vs 1 = x1 at *
        subst r1
        go_simp
        exact hK _ _ _ hI (Step.refl hI) rfl
      · intro vs g w3 hI hF hR K hK
        simp only [Facts, fill, Act.put, z1, z2, z3, z4, z5, Nat.reduceAdd] at hF hR hK ⊢
        obtain ⟨r2, -⟩ := hR
        generalize vs 2 = x2 at *
        subst r2
        have k0 := hI.cell k0 (fun i e => by cases e)
        go_simp
        exact hK _ _ _ hI (Step.refl hI) rfl
      · intro vs g w3 hI hF hR K hK
        simp only [Facts, fill, Act.put, z1, z2, z3, z4, z5, Nat.reduceAdd] at hF hR hK ⊢
        obtain ⟨r0, r3, -⟩ := hR
        generalize vs 0 = x0, vs 3 = x3 at *
        obtain ⟨mb, rfl, hmb, -⟩ := r0
        subst r3
        have hlk := HLK.out mb w3 hmb
        go_simp
        exact hK _ _ _ hI (Step.refl hI) rfl
      · intro vs g w3 hI hF hR K hK
        simp only [Facts, fill, Act.put, z1, z2, z3, z4, z5, Nat.reduceAdd] at hF hR hK ⊢
        obtain ⟨r4, -⟩ := hR
        generalize vs 4 = x4 at *
        subst r4
        go_simp
        exact hK _ _ _ hI (Step.refl hI) rfl
      · intro vs g w3 hI hF hR K hK
        simp only [Facts, fill, Act.put, z1, z2, z3, z4, z5, Nat.reduceAdd] at hF hR hK ⊢
        obtain ⟨r5, -⟩ := hR
        generalize vs 5 = x5 at *
        subst r5
        go_simp
        exact hK _ _ _ hI (Step.refl hI) rfl
      · intro vs g w3 hI hF hR K hK
        simp only [Facts, fill, Act.put, z1, z2, z3, z4, z5, Nat.reduceAdd] at hF hR hK ⊢
        obtain ⟨r5, -⟩ := hR
        generalize vs 5 = x5 at *
        subst r5
        go_simp
        exact hK _ _ _ hI (Step.refl hI) rfl
      · intro vs g w3 hI hF hR K hK
        simp only [Facts, fill, Act.put, z1, z2, z3, z4, z5, Nat.reduceAdd] at hF hR hK ⊢
        go_simp
        exact hK _ _ _ (hI.alloc _ (hF (by decide)) _) (Step.alloc hI (hF (by decide)) _) ⟨_, rfl, more_at _ _ _, box2' _ _ _ _⟩
      · intro vs g w3 hI hF hR K hK
        simp only [Facts, fill, Act.put, z1, z2, z3, z4, z5, Nat.reduceAdd] at hF hR hK ⊢
        obtain ⟨r8, r6, -⟩ := hR
        generalize vs 8 = x8, vs 6 = x6 at *
        obtain ⟨kb, rfl, hkb, hbx⟩ := r8
        subst r6
        obtain ⟨⟨u0, j0⟩, f0⟩ := hbx 0 (by decide)
        obtain ⟨⟨u1, j1⟩, f1⟩ := hbx 1 (by decide)
        have hff := HFF.out
        clear HCA HLK HFF
        rcases hff with ⟨fn, rfl⟩ | rfl
        · go_simp
          have ht := ((Touch.refl w3 kb).set 0 (.string s)).set 1 (.func (.func fn) #[] #[])
          exact hK undef _ _ (hI.store (by decide) hkb ht) (Step.store hI rfl hkb ht) ⟨kb, .agg #[.string s, .func (.func fn) #[] #[]], hkb, by rw [ht.size]; exact hI.lt _ _ hkb, cells2 j0 j1 (.string s) (.func (.func fn) #[] #[]), rfl⟩
        · go_simp
          have ht := ((Touch.refl w3 kb).set 0 (.string s)).set 1 (.nilFunc)
          exact hK undef _ _ (hI.store (by decide) hkb ht) (Step.store hI rfl hkb ht) ⟨kb, .agg #[.string s, .nilFunc], hkb, by rw [ht.size]; exact hI.lt _ _ hkb, cells2 j0 j1 (.string s) (.nilFunc), rfl⟩
      · intro vs g w3 hI hF hR K hK
        simp only [Facts, fill, Act.put, z1, z2, z3, z4, z5, Nat.reduceAdd] at hF hR hK ⊢
        obtain ⟨r7, -⟩ := hR
        generalize vs 7 = x7 at *
        subst r7
        go_simp
        exact hK _ _ _ hI (Step.refl hI) rfl
    case fin =>
      intro vs g w3 hI hR
      have r8 := hR 8 (by decide)
      have r9 := hR 9 (by decide)
      have r10 := hR 10 (by decide)
      simp only [fill, Act.put, z1, z2, z3, z4, z5] at r8 r9 r10 ⊢
      clear hR
      generalize vs 8 = x8 at *
      generalize vs 9 = x9 at *
      generalize vs 10 = x10 at *
      obtain ⟨kb, rfl, hkb, -⟩ := r8
      obtain ⟨kb2, u, hkb2, -, hcell, hu⟩ := r9
      rw [hkb] at hkb2
      injection hkb2 with hkb2
      subst hkb2 hu r10
      have hb3 : Below w2.heap.size w2 w3 := hI.below
      have y8 : w3.cell? ⟨kb, 0, none⟩ = some (.string s) := hcell 0 _ rfl
      have y9 : w3.cell? ⟨kb, 1, none⟩ = some f := hcell 1 _ rfl
      have q3 := q2.trans (hb3.mono q2.size)
      have HBX3 := Lib.hid (HBX.out.same (hb3.block (B + 1) HBX.out.lt))
      have HG3 := Lib.hid ((HG.out.next hb2 hBW).next hb3 (Nat.lt_of_lt_of_le hBW hb2.size))
      have hB3 : B + 1 < w3.heap.size := HBX3.out.lt
      clear hcell hI hkb k0 k1 k2 k3 k4 k5 k6 HLK HOK
      have HRQ3 := Lib.hid ((HRQ.out.next hb2).next hb3)
      have HM3 := Lib.hid (show ∀ (W3 : World), Moved (fun g => (T g ∧ g < w.heap.size) ∨ w3.heap.size ≤ g) w3 W3 → WtsC q W3 from fun W3 hm => HWT.out W3 (moved_mix q3 hm))
      have HT3 := Lib.hid (tape_mix HT.out q3)
      have HQ3 := Lib.hid (show ∀ b, (Q b ∧ b < w.heap.size) → ¬ ((T b ∧ b < w.heap.size) ∨ w3.heap.size ≤ b) from fun b hb e => by
        rcases e with e | e
        · exact HQT.out b hb.1 e.1
        · have := hb.2; have := q3.size; omega)
      have hoff : ¬ ((T (B + 1) ∧ B + 1 < w.heap.size) ∨ w3.heap.size ≤ B + 1) := fun h => h.elim (fun h => by have := h.2; omega) (fun h => by omega)
      obtain ⟨⟨x0, x1, x2⟩, f0, f1, f2⟩ := HBX3.out.at_
      obtain ⟨k0, k1, k2, k3, k4, k5, k6⟩ := HG3.out
      rcases HCA.out with ⟨rfl, rfl, rfl⟩ | ⟨rfl, rfl, rfl⟩ | ⟨rfl, rfl, rfl⟩ | ⟨rfl, rfl, rfl⟩ | ⟨rfl, rfl, rfl⟩
      · obtain ⟨v, hv⟩ : ∃ v, valEw 0 1 rs ps = v := ⟨_, rfl⟩
        have HX := Lib.hid (show r = (v, 0) by rw [← HAV.out, ← hv]; rfl)
        have HV := Lib.hid hv
        clear hv
        go_wp2_with (fail)
        refine (orientValue_c (.pointer tp) vx pts hA hn hc hrs RA rn rc rs PA pn pc ps QA qn qc qs (rgP hrs) v (fun b => Q b ∧ b < w.heap.size) w3 (HM3.out w3 (.of_below (Below.refl _ _))).wts HRQ3.out HE.out HV.out).mono ?_
        rintro e w4 ⟨rfl, hb4⟩
        have hm4 : Moved (fun g => (T g ∧ g < w.heap.size) ∨ w3.heap.size ≤ g) w3 w4 := .of_below hb4
        have ht5 : TapeO w4 (fun g => T g ∧ g < w.heap.size) (.pointer tp) evs := HT.out.now.next (q3.trans (hb4.mono q3.size))
        have hbx4 := HBX3.out.same (hm4.block (B + 1) hB3 hoff)
        have HBX4 := Lib.hid hbx4
        have HT4 := Lib.hid ht5
        have HM4 := Lib.hid (moved_mix q3 hm4)
        have hsz3 := q3.size
        clear x0 x1 x2 f0 f1 f2 k0 k1 k2 k3 k4 k5 k6 hbx4 hm4 y8 y9 ht5
        obtain ⟨⟨x0, x1, x2⟩, f0, f1, f2⟩ := HBX4.out.at_
        go_wp2
        generalize hWf : ((w4.setCell ⟨B + 1, 0, none⟩ (.int .i64 v)).setCell ⟨B + 1, 1, none⟩ (.int .i64 0)).setCell ⟨B + 1, 2, none⟩ (.slice none 0 0) = Wf
        obtain ⟨hbxf, hmf⟩ := HBX4.out.put3 hWf
        obtain ⟨⟨y0, y1, y2⟩, -⟩ := hbxf.at_
        have HNO := Lib.hid (show addT (.pointer tp) evs (ansE 0 1 vx (hrs.map rgK)) = evs by rw [show ansE 0 1 vx (hrs.map rgK) = [] from (if_pos rfl).trans (evE_no (by decide) (by decide))]; exact addT_nil HT.out)
        have HTF := Lib.hid (show TapeO Wf (fun g => T g ∨ w.heap.size ≤ g) (.pointer tp) (addT (.pointer tp) evs (ansE 0 1 vx (hrs.map rgK))) by rw [HNO.out]; exact (HT4.out.keep fun b hb hlt => hmf.block b hlt (fun e => by have := hb.2; omega)).imp fun g hg => .inl hg.1)
        exact bodyPost_ret (v := .tuple #[.agg #[.int .i64 v, .int .i64 0, .slice none 0 0], .int .i64 0]) (by simp [results, Tryz.results16, go_sem, y0, y1, y2]) rfl ⟨by rw [HX.out]; exact ⟨none, 0, rfl⟩, HTF.out, moved_own HM4.out hmf hbw⟩
      · obtain ⟨v, hv⟩ : ∃ v, valEw 0 2 rs ps = v := ⟨_, rfl⟩
        have HX := Lib.hid (show r = (v, 0) by rw [← HAV.out, ← hv]; rfl)
        have HV := Lib.hid hv
        clear hv
        go_wp2_with (fail)
        refine (circleValue_c (.pointer tp) vx pts hA hn hc hrs RA rn rc rs PA pn pc ps QA qn qc qs (rgP hrs) v (fun b => Q b ∧ b < w.heap.size) w3 (HM3.out w3 (.of_below (Below.refl _ _))).wts HRQ3.out HE.out HV.out).mono ?_
        rintro e w4 ⟨rfl, hb4⟩
        have hm4 : Moved (fun g => (T g ∧ g < w.heap.size) ∨ w3.heap.size ≤ g) w3 w4 := .of_below hb4
        have ht5 : TapeO w4 (fun g => T g ∧ g < w.heap.size) (.pointer tp) evs := HT.out.now.next (q3.trans (hb4.mono q3.size))
        have hbx4 := HBX3.out.same (hm4.block (B + 1) hB3 hoff)
        have HBX4 := Lib.hid hbx4
        have HT4 := Lib.hid ht5
        have HM4 := Lib.hid (moved_mix q3 hm4)
        have hsz3 := q3.size
        clear x0 x1 x2 f0 f1 f2 k0 k1 k2 k3 k4 k5 k6 hbx4 hm4 y8 y9 ht5
        obtain ⟨⟨x0, x1, x2⟩, f0, f1, f2⟩ := HBX4.out.at_
        go_wp2
        generalize hWf : ((w4.setCell ⟨B + 1, 0, none⟩ (.int .i64 v)).setCell ⟨B + 1, 1, none⟩ (.int .i64 0)).setCell ⟨B + 1, 2, none⟩ (.slice none 0 0) = Wf
        obtain ⟨hbxf, hmf⟩ := HBX4.out.put3 hWf
        obtain ⟨⟨y0, y1, y2⟩, -⟩ := hbxf.at_
        have HNO := Lib.hid (show addT (.pointer tp) evs (ansE 0 2 vx (hrs.map rgK)) = evs by rw [show ansE 0 2 vx (hrs.map rgK) = [] from (if_pos rfl).trans (evE_no (by decide) (by decide))]; exact addT_nil HT.out)
        have HTF := Lib.hid (show TapeO Wf (fun g => T g ∨ w.heap.size ≤ g) (.pointer tp) (addT (.pointer tp) evs (ansE 0 2 vx (hrs.map rgK))) by rw [HNO.out]; exact (HT4.out.keep fun b hb hlt => hmf.block b hlt (fun e => by have := hb.2; omega)).imp fun g hg => .inl hg.1)
        exact bodyPost_ret (v := .tuple #[.agg #[.int .i64 v, .int .i64 0, .slice none 0 0], .int .i64 0]) (by simp [results, Tryz.results16, go_sem, y0, y1, y2]) rfl ⟨by rw [HX.out]; exact ⟨none, 0, rfl⟩, HTF.out, moved_own HM4.out hmf hbw⟩
      · obtain ⟨v, hv⟩ : ∃ v, valEw q 3 rs ps = v := ⟨_, rfl⟩
        have HX := Lib.hid (show r = (v, 0) by rw [← HAV.out, ← hv]; rfl)
        have HV := Lib.hid hv
        clear hv
        go_wp2_with (fail)
        refine (convexValue_c q (.pointer tp) evs (fun g => (T g ∧ g < w.heap.size) ∨ w3.heap.size ≤ g) (fun b => Q b ∧ b < w.heap.size) vx pts hA hn hc hrs RA rn rc rs PA pn pc ps QA qn qc qs (rgP hrs) v w3 HM3.out HT3.out hev HRQ3.out HQ3.out HE.out HV.out).mono ?_
        rintro e w4 ⟨rfl, ht4, hm4⟩
        have hbx4 := HBX3.out.same (hm4.block (B + 1) hB3 hoff)
        have HBX4 := Lib.hid hbx4
        have HT4 := Lib.hid ht4
        have HM4 := Lib.hid (moved_mix q3 hm4)
        have hsz3 := q3.size
        clear x0 x1 x2 f0 f1 f2 k0 k1 k2 k3 k4 k5 k6 hbx4 ht4 hm4 y8 y9
        obtain ⟨⟨x0, x1, x2⟩, f0, f1, f2⟩ := HBX4.out.at_
        go_wp2
        generalize hWf : ((w4.setCell ⟨B + 1, 0, none⟩ (.int .i64 v)).setCell ⟨B + 1, 1, none⟩ (.int .i64 0)).setCell ⟨B + 1, 2, none⟩ (.slice none 0 0) = Wf
        obtain ⟨hbxf, hmf⟩ := HBX4.out.put3 hWf
        obtain ⟨⟨y0, y1, y2⟩, -⟩ := hbxf.at_
        have HTF := Lib.hid (show TapeO Wf (fun g => T g ∨ w.heap.size ≤ g) (.pointer tp) (addT (.pointer tp) evs (ansE 0 3 vx (hrs.map rgK))) from (HT4.out.keep fun b hb hlt => hmf.block b hlt (fun e => by subst e; exact hb.elim hoff (fun h => by omega))).imp fun g hg => by
          rcases hg with (hg | hg) | hg
          · exact .inl hg.1
          · exact .inr (by omega)
          · exact .inr (by omega))
        exact bodyPost_ret (v := .tuple #[.agg #[.int .i64 v, .int .i64 0, .slice none 0 0], .int .i64 0]) (by simp [results, Tryz.results16, go_sem, y0, y1, y2]) rfl ⟨by rw [HX.out]; exact ⟨none, 0, rfl⟩, HTF.out, moved_own HM4.out hmf hbw⟩
      · obtain ⟨v, hv⟩ : ∃ v, valEw q 4 rs ps = v := ⟨_, rfl⟩
        have HX := Lib.hid (show r = (v, 0) by rw [← HAV.out, ← hv]; rfl)
        have HV := Lib.hid hv
        clear hv
        have HK1 := Lib.hid (keys_enc HE.out)
        have HK2 := Lib.hid (check_enc HE.out (by decide))
        have HRL := Lib.hid (show rn ≤ 1000000 by rw [HRQ.out.rlen]; have := (check_64 HK2.out).2; omega)
        go_wp2_with (fail)
        refine (fenceValue_c q (.pointer tp) evs (fun g => (T g ∧ g < w.heap.size) ∨ w3.heap.size ≤ g) (fun b => Q b ∧ b < w.heap.size) vx pts hA hn hc hrs RA rn rc rs PA pn pc ps QA qn qc qs (rgP hrs) v w3 HM3.out HT3.out hev HRQ3.out HQ3.out HRL.out HK1.out HK2.out HE.out HV.out).mono ?_
        rintro e w4 ⟨rfl, ht4, hm4⟩
        have hbx4 := HBX3.out.same (hm4.block (B + 1) hB3 hoff)
        have HBX4 := Lib.hid hbx4
        have HT4 := Lib.hid ht4
        have HM4 := Lib.hid (moved_mix q3 hm4)
        have hsz3 := q3.size
        clear x0 x1 x2 f0 f1 f2 k0 k1 k2 k3 k4 k5 k6 hbx4 ht4 hm4 y8 y9
        obtain ⟨⟨x0, x1, x2⟩, f0, f1, f2⟩ := HBX4.out.at_
        go_wp2
        generalize hWf : ((w4.setCell ⟨B + 1, 0, none⟩ (.int .i64 v)).setCell ⟨B + 1, 1, none⟩ (.int .i64 0)).setCell ⟨B + 1, 2, none⟩ (.slice none 0 0) = Wf
        obtain ⟨hbxf, hmf⟩ := HBX4.out.put3 hWf
        obtain ⟨⟨y0, y1, y2⟩, -⟩ := hbxf.at_
        have HTF := Lib.hid (show TapeO Wf (fun g => T g ∨ w.heap.size ≤ g) (.pointer tp) (addT (.pointer tp) evs (ansE 0 4 vx (hrs.map rgK))) from (HT4.out.keep fun b hb hlt => hmf.block b hlt (fun e => by subst e; exact hb.elim hoff (fun h => by omega))).imp fun g hg => by
          rcases hg with (hg | hg) | hg
          · exact .inl hg.1
          · exact .inr (by omega)
          · exact .inr (by omega))
        exact bodyPost_ret (v := .tuple #[.agg #[.int .i64 v, .int .i64 0, .slice none 0 0], .int .i64 0]) (by simp [results, Tryz.results16, go_sem, y0, y1, y2]) rfl ⟨by rw [HX.out]; exact ⟨none, 0, rfl⟩, HTF.out, moved_own HM4.out hmf hbw⟩
      · have HX := Lib.hid (show r = (0, 2) by rw [← HAV.out]; rfl)
        have HNO := Lib.hid (show addT (.pointer tp) evs (ansE 0 5 vx (hrs.map rgK)) = evs from addT_nil HT.out)
        go_wp2
        generalize hWf : ((w3.setCell ⟨B + 1, 0, none⟩ (.int .i64 0)).setCell ⟨B + 1, 1, none⟩ (.int .i64 0)).setCell ⟨B + 1, 2, none⟩ (.slice none 0 0) = Wf
        obtain ⟨hbf, _, y0, y1, y2⟩ := fin3 HBX3.out q3 hbw hWf
        exact bodyPost_ret (v := .tuple #[.agg #[.int .i64 0, .int .i64 0, .slice none 0 0], .int .i64 2]) (by simp [results, Tryz.results16, go_sem, y0, y1, y2]) rfl ⟨by rw [HX.out]; exact ⟨none, 0, rfl⟩, by rw [HNO.out]; exact (HT.out.next hbf).imp fun g hg => .inl hg, .of_below hbf⟩
  · have d1 : (er != 0) = true := by rw [bne_iff_ne]; exact he0
    have HX := Lib.hid (show r = (0, er) by rw [← HAV.out]; unfold ansVw; rw [if_pos he0])
    have HNO := Lib.hid (show addT (.pointer tp) evs (ansE er op vx (hrs.map rgK)) = evs by unfold ansE; rw [if_neg he0]; exact addT_nil HT.out)
    clear he0
    go_wp2
    generalize hWf : ((w2.setCell ⟨B + 1, 0, none⟩ (.int .i64 0)).setCell ⟨B + 1, 1, none⟩ (.int .i64 0)).setCell ⟨B + 1, 2, none⟩ (.slice none 0 0) = Wf
    obtain ⟨hbf, _, y0, y1, y2⟩ := fin3 HBX.out q2 hbw hWf
    exact bodyPost_ret (v := .tuple #[.agg #[.int .i64 0, .int .i64 0, .slice none 0 0], .int .i64 er]) (by simp [results, Tryz.results16, go_sem, y0, y1, y2]) rfl ⟨by rw [HX.out]; exact ⟨none, 0, rfl⟩, by rw [HNO.out]; exact (HT.out.next hbf).imp fun g hg => .inl hg, .of_below hbf⟩
end Go.Proofs.YthmkllpdkcmccaaGreatDoor
namespace Go.Proofs.YthmkllpdkcmccaaGreatDoor
open Go.RowKit Go.Maps
set_option maxRecDepth 100000
set_option linter.unusedVariables false
set_option linter.unusedSimpArgs false

/-- With no tape. -/
theorem engConvex_n {q : Int} {Q : Nat → Prop} {A : Option Addr} {n c : Nat} {l : List Pt} {p : Pt} {r : Int} {w : World} (hw : WtsC q w) (ha : RowR w Q 2 ptC A l) (hn : n = l.length) (hl : n ≤ 1000000) (hS : SsP l) (hp : S p.x ∧ S p.y) (hr : convV l p = r) :
    Calls Tryz.prog 9 #[.pointer none, .slice A n c, .agg #[.int .i64 p.x, .int .i64 p.y]] w fun e w' => e = .returned (.int .i64 r) ∧ Below w.heap.size w w' :=
  (engConvex_c q (.pointer none) [] (fun _ => False) Q A n c l p r w (fun W hm => hw.below hm.to_below) (.inl ⟨rfl, rfl⟩) (by simp) ha (fun _ _ h => h) hn hl hS hp hr).mono fun e w' ⟨h1, _, h2⟩ => ⟨h1, h2.to_below⟩
theorem engFence_n {q : Int} {Q : Nat → Prop} {A : Option Addr} {n c : Nat} {rs : List Rg} {p : Pt} {r : Int} {w : World} (hw : WtsC q w) (ha : RowR w Q 3 rgC A rs) (hg : RegsOk w Q rs) (hn : n = rs.length) (hl : n ≤ 1000000) (hp : S p.x ∧ S p.y) (hr : fencVw q rs p = r) :
    Calls Tryz.prog 21 #[.pointer none, .slice A n c, .agg #[.int .i64 p.x, .int .i64 p.y]] w fun e w' => e = .returned (.int .i64 r) ∧ Below w.heap.size w w' :=
  (engFence_c q (.pointer none) [] (fun _ => False) Q A n c rs p r w (fun W hm => hw.below hm.to_below) (.inl ⟨rfl, rfl⟩) (by simp) ha hg (fun _ _ h => h) hn hl hp hr).mono fun e w' ⟨h1, _, h2⟩ => ⟨h1, h2.to_below⟩
theorem engAnswer_n {q : Int} {Q : Nat → Prop} {op vx pts : Int} {hA : Option Addr} {hn hc : Nat} {hrs : List Rg} {RA : Option Addr} {rn rc : Nat} {rs : List Rg} {PA : Option Addr} {pn pc : Nat} {ps : List Pt} {QA : Option Addr} {qn qc : Nat} {qs : List Qr} {er : Int} {r : Int × Int} {w : World} (hw : WtsC q w)
    (hr : ReqR w Q hA hn hc hrs RA rn rc rs PA pn pc ps QA qn qc qs) (hN : ReqN op vx pts hn rn pn qn hrs) (he : encE ⟨⟨op, vx, hrs.map rgK, pts⟩, rs.map rgD, ps, qs⟩ (rgP hrs) = er) (ha : ansVw q er op rs ps = r) :
    Calls Tryz.prog 16 #[.pointer none, .agg #[.int .i64 op, .int .i64 vx, .slice hA hn hc, .int .i64 pts, .slice RA rn rc, .slice PA pn pc, .slice QA qn qc]] w fun e w' => GivesV r.1 r.2 e ∧ Below w.heap.size w w' :=
  (engAnswer_c q (.pointer none) [] (fun _ => False) Q op vx pts hA hn hc hrs RA rn rc rs PA pn pc ps QA qn qc qs er r w (fun W hm => hw.below hm.to_below) (.inl ⟨rfl, rfl⟩) (by simp) hr (fun _ _ h => h) hN he ha).mono fun e w' ⟨h1, _, h2⟩ => ⟨h1, h2.to_below⟩
end Go.Proofs.YthmkllpdkcmccaaGreatDoor
namespace Go.Proofs.YthmkllpdkcmccaaGreatDoor
open Go.RowKit Go.Maps
set_option maxRecDepth 100000
set_option linter.unusedVariables false
set_option linter.unusedSimpArgs false

theorem nil_evs {w : World} {T : Nat → Prop} {l : List Ev} (h : EvsR w T none l) : l = [] := by
  rcases l with _ | ⟨e, l⟩
  · rfl
  · obtain ⟨b, o, e, _⟩ := h (by simp); cases e
/-- append of events onto a row of one's own, at the walk's operation: whatever comes, nil too. -/
theorem wp_app_ev {ops : Array Oper} {rest : List Oper} {o : Oper} {a : Act} {Q : Exit → Act → World → Prop} {w : World} (hgd : o.guard = none) (s x : Operand)
    (ho : o.op = .call { callee := .builtin .append, args := #[s, x], argTypes := #[31, 31] }) (base : Nat) (v : Value) (n : Nat) (xs : List Value) (hs : a.eval s = v) (hown : w.ownsRow base 73 3 v n xs)
    (A : Option Addr) (c : Nat) (l : List Ev) (T : Nat → Prop) (hx : a.eval x = .slice A l.length c) (hl : EvsR w T A l) (hc : A = none → c = 0) (h1 : n + l.length ≤ 1000000) (hbase : base ≤ w.heap.size)
    (h : ∀ v' w', w'.ownsRow base 73 3 v' (n + l.length) (xs ++ l.flatMap evC) → w.grownBy w' v.ownBlock → wpList Tryz.prog ops Q rest (a.put o.dst v') w') : wpList Tryz.prog ops Q (o :: rest) a w := by
  obtain ⟨i0, hi, hz0, hz1, hz2⟩ := info_parts infoEv
  cases A with
  | some ad => exact wpList_append_own _ hgd s x 31 ho base 73 i0 (.agg #[.int .i64 0, .int .i64 0, .int .i64 0]) 3 24 Tryz.underlying31 hi hz0 hz1 hz2 rfl (by decide) v n xs hs hown ad l.length c (l.flatMap evC) hx (flat_len l) (fun j u hj => hl.cells_ j u hj) (flat_cell l) (by unfold maxLen; omega) (by omega) hbase (fun v' w' h1 h2 _ => h v' w' h1 h2)
  | none =>
    obtain rfl := nil_evs hl
    obtain rfl := hc rfl
    exact wpList_append_own_none hgd s x 31 ho base 73 i0 3 Tryz.underlying31 hi v n xs hs hown hx (h v w (by simpa using hown) (World.grownBy.refl w _))
/-- A slice of slices of events, in memory. -/
structure EvLs (w : World) (b o : Nat) (Ls : List (Option Addr × Nat × List Ev)) : Prop where
  cell : ∀ j p, Ls[j]? = some p → w.cell? ⟨b, o + j, none⟩ = some (.slice p.1 p.2.2.length p.2.1)
  evs : ∀ p ∈ Ls, EvsR w (fun _ => True) p.1 p.2.2 ∧ (p.1 = none → p.2.1 = 0)
theorem EvLs.next {w w' : World} {b o : Nat} {Ls : List (Option Addr × Nat × List Ev)} (h : EvLs w b o Ls) (hb : Below w.heap.size w w') : EvLs w' b o Ls :=
  ⟨fun j p hp => (hb.cell (p := ⟨b, o + j, none⟩) (lt_of_cell (h.cell j p hp))).trans (h.cell j p hp), fun p hp => ⟨(h.evs p hp).1.next hb, (h.evs p hp).2⟩⟩
end Go.Proofs.YthmkllpdkcmccaaGreatDoor
