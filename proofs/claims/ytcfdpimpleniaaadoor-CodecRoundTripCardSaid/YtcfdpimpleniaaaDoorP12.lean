/-
  Packed texts: Ref18e.
-/
import Derived.BigQuiet
import Derived.Deep.QuietTactic
import Derived.Test.YtcfdpimpleniaaaDoorP11
namespace Go.Proofs.YtcfdpimpleniaaaDoor
open Go.RowKit
set_option maxRecDepth 100000
set_option linter.unusedVariables false
set_option linter.unusedSimpArgs false

theorem sizeS (v r : Int) (w : World) (hr : sizeF v = r) : Calls Tryd.prog 33 #[.int .i64 v] w fun e w' => e = .returned (.int .i64 r) ∧ Below w.heap.size w w' :=
  (ref16Size_any v r w hr).mono fun e w' ⟨h1, h2⟩ => ⟨h1, h2 ▸ Below.refl _ _⟩
set_option maxHeartbeats 8000000 in
theorem ref18Encode_any (op vx pts : Int) (hA : Option Addr) (hn hc : Nat) (hrs : List Rg) (RA : Option Addr) (rn rc : Nat) (rs : List Rg) (PA : Option Addr) (pn pc : Nat) (ps : List Pt) (QA : Option Addr) (qn qc : Nat) (qs : List Qr) (er : Int) (bs : List Int) (w : World)
    (hh : RowR w (fun g => g < w.heap.size) 3 rgC hA hrs) (hhn : hn = hrs.length) (hhl : hn ≤ 9223372036854775807)
    (hr : RowR w (fun g => g < w.heap.size) 3 rgC RA rs) (hrn : rn = rs.length) (hrl : rn ≤ 9223372036854775807) (hro : RegsOk w (fun g => g < w.heap.size) rs)
    (hp : RowR w (fun g => g < w.heap.size) 2 ptC PA ps) (hpn : pn = ps.length) (hpl : pn ≤ 9223372036854775807) (hpS : SsP ps)
    (hq : RowR w (fun g => g < w.heap.size) 3 qrC QA qs) (hqn : qn = qs.length) (hql : qn ≤ 9223372036854775807) (hqO : ∀ q ∈ qs, OkQ q)
    (he : encE ⟨⟨op, vx, hrs.map rgK, pts⟩, rs.map rgD, ps, qs⟩ (rgP hrs) = er) (hb : (if er = 0 then encB ⟨⟨op, vx, hrs.map rgK, pts⟩, rs.map rgD, ps, qs⟩ else []) = bs) :
    Calls Tryd.prog 12 #[.agg #[.int .i64 op, .int .i64 vx, .slice hA hn hc, .int .i64 pts, .slice RA rn rc, .slice PA pn pc, .slice QA qn qc]] w (GivesB w er bs) := by
  obtain ⟨W, hW⟩ : ∃ W, W = w.alloc (.cells #[.int .i64 op, .int .i64 vx, .slice hA hn hc, .int .i64 pts, .slice RA rn rc, .slice PA pn pc, .slice QA qn qc] 38) := ⟨_, rfl⟩
  obtain ⟨B, hB⟩ : ∃ b, b = w.heap.size := ⟨_, rfl⟩
  obtain ⟨h0, hsW, g0, g1, g2, g3, g4, g5, g6⟩ := box7 hW
  rw [← hB] at g0 g1 g2 g3 g4 g5 g6
  have hBW : B < W.heap.size := by omega
  have HBX := Lib.hid (ReqAt.mk g0 g1 g2 g3 g4 g5 g6)
  have HW := Lib.hid hW
  have HB := Lib.hid hB
  obtain ⟨fe, hfe⟩ : ∃ fe, formErr ⟨op, vx, hrs.map rgK, pts⟩ (rgP hrs) = fe := ⟨_, rfl⟩
  have HFE := Lib.hid hfe
  have HHN := Lib.hid hhn
  have HRN := Lib.hid hrn
  have HPN := Lib.hid hpn
  have HQN := Lib.hid hqn
  have HE := Lib.hid he
  have HBB := Lib.hid hb
  have HHW := Lib.hid (hh.next h0)
  have hrW := hr.next h0
  have hroW := hro.next h0
  have hpW := hp.next h0
  have hqW := hq.next h0
  have HRow := Lib.hid (And.intro hrW (And.intro hroW (And.intro hpW hqW)))
  clear hW hB hh hr hro hp hq hfe he hb hrW hroW hpW hqW hhn hrn hpn hqn
  go_enter Tryd.func12, Tryd.ntmps12
  go_upto_region 1 with (fail)
  rw [← HW.out, ← HB.out]
  go_wp2_with (fail)
  refine (ref17Format_any op vx pts hA hn hc hrs fe _ W (HHW.out.imp fun g hg => by omega) HHN.out hhl HFE.out rfl).mono ?_
  rintro e w1 ⟨v1, rfl, hown1, hb1⟩
  have hx1 := HBX.out.next hb1 hBW
  by_cases hf : fe = 0
  · subst hf
    rw [if_pos rfl] at hown1
    obtain ⟨hk, hpf⟩ := formErr_ok.1 HFE.out
    obtain ⟨np, hnp⟩ : ∃ np, cntP ⟨op, vx, hrs.map rgK, pts⟩ = np := ⟨_, rfl⟩
    obtain ⟨nq, hnq⟩ : ∃ nq, cntQ ⟨op, vx, hrs.map rgK, pts⟩ = nq := ⟨_, rfl⟩
    have HNP := Lib.hid hnp
    have HNQ := Lib.hid hnq
    have hcn := cnt_nn hk
    rw [hnp, hnq] at hcn
    have hfl := formB_len hk
    have hi1 : EncI W v1 (formB ⟨op, vx, hrs.map rgK, pts⟩) w1 := ⟨hown1, hb1⟩
    have HK := Lib.hid hk
    clear hnp hnq hk hpf
    obtain ⟨k0, k1, k2, k3, k4, k5, k6⟩ := hx1
    go_wp2_with (fail)
    refine (ref18Counts_any op vx pts hA hn hc (hrs.map rgK) np nq w1 HK.out HNP.out HNQ.out).mono ?_
    rintro e w2 ⟨rfl, hb2⟩
    have hi2 := hi1.next hb2
    have hx2 := HBX.out.next hi2.below hBW
    clear k0 k1 k2 k3 k4 k5 k6
    obtain ⟨k0, k1, k2, k3, k4, k5, k6⟩ := hx2
    clear hi1 hown1 hb1 hb2
    by_cases hc1 : rn = hn
    · by_cases hc2 : (pn : Int) = np
      · by_cases hc3 : (qn : Int) = nq
        · subst hc1 hc2 hc3
          obtain ⟨hK64, hR64⟩ : (1 ≤ op ∧ op ≤ 5) ∧ rs.length ≤ 64 := by
            refine ⟨HK.out.op, ?_⟩
            have h1 := HK.out.len
            have h2 := HK.out.len0
            simp only [List.length_map] at h1
            by_cases h4 : 4 ≤ op
            · have := (h1 h4).2; have := HRN.out; have := HHN.out; omega
            · have h3 := h2 (by show op < 4; omega)
              have h5 : hrs = [] := by simpa using h3
              have := HRN.out; have := HHN.out; rw [h5] at this; simp at this; omega
          obtain ⟨fs, hfs⟩ : ∃ fs, fs = formB ⟨op, vx, hrs.map rgK, pts⟩ := ⟨_, rfl⟩
          rw [← hfs] at hfl hi2
          have HFS := Lib.hid hfs
          have HLEN := Lib.hid (show rs.length = hrs.length by rw [← HRN.out, ← HHN.out])
          have HCN := Lib.hid hcn
          clear hfs hcn hK64
          go_wp2
          go_loopw [8] (fun i wr => ERel1 W v1 fs rs hrs i wr) (fun i _ => rs.length - (intOf i).toNat)
          case atStart => exact ⟨0, rfl, Nat.zero_le _, fun j _ _ h => absurd h (Nat.not_lt_zero j), hi2⟩
          case round =>
            clear k0 k1 k2 k3 k4 k5 k6 hi2
            obtain ⟨k, rfl, hk, hto, hi⟩ := hrel
            obtain ⟨k0, k1, k2, k3, k4, k5, k6⟩ := HBX.out.next hi.below hBW
            have HTO := Lib.hid hto
            clear hto
            by_cases hgo : k < rs.length
            · have hgh : k < hrs.length := by rw [← HLEN.out]; exact hgo
              obtain ⟨b, o, rfl, hT, c0, c1, c2⟩ := (HRow.out.1.next hi.below).rg2 hgo
              obtain ⟨b', o', rfl, hT', e0, e1, e2⟩ := (HHW.out.next hi.below).rg2 hgh
              have HSC := Lib.hid (fun e => LensTo.succ HTO.out hgo hgh e)
              have hNO := Lib.hid (fun (e : ¬ ((rs[k]).l.length : Int) = sizeF (hrs[k]).v) => show lens (rs.map rgD) (hrs.map rgK) = false from by
                cases hb : lens (rs.map rgD) (hrs.map rgK) with
                | false => rfl
                | true => exact absurd (((lens_to HLEN.out).1 hb) k hgo hgh hgo) e)
              obtain ⟨m, hm⟩ : ∃ m, (rs[k]).l.length = m := ⟨_, rfl⟩
              rw [hm] at c2 HSC hNO
              generalize (rs[k]).A = A2 at c2
              generalize (rs[k]).c = cc at c2
              generalize (hrs[k]).v = v2 at e1 HSC hNO
              obtain ⟨s, hs⟩ : ∃ s, sizeF v2 = s := ⟨_, rfl⟩
              rw [hs] at HSC hNO
              have HS := Lib.hid hs
              have hkr : (k : Int) < rn := by have := HRN.out; omega
              clear hs hm
              by_cases hq8 : (m : Int) = s
              · have hne : ((m : Int) != s) = false := by rw [bne_eq_false_iff_eq]; exact hq8
                have hto2 := HSC.out hq8
                clear hq8
                go_wp2
                refine dir_plain (by kernel_rfl) 16 [[], [(57, 0)], [], [(58, 1), (59, 2)], [(60, 3)], [(61, 4)], [(62, 5)], [], [(64, 7)], [(65, 8)], [], [(66, 9), (67, 10)], [(68, 11)], [(69, 12)], [(70, 13)], [(63, 6), (71, 14)]] [(57, 0), (58, 1), (59, 2), (60, 3), (61, 4), (62, 5), (63, 6), (64, 7), (65, 8), (66, 9), (67, 10), (68, 11), (69, 12), (70, 13), (71, 14), (72, 15)] [
                    (fun v _ => v = .pointer (some ⟨B, 4, none⟩)),
                    (fun v _ => v = .slice (some ⟨b, o, none⟩) rn rc),
                    (fun v _ => v = .int .i64 k),
                    (fun v _ => v = .pointer (some ⟨b, o + k * 3, none⟩)),
                    (fun v _ => v = .pointer (some ⟨b, o + k * 3 + 2, none⟩)),
                    (fun v _ => v = .slice A2 m cc),
                    (fun v _ => v = .int .i64 m),
                    (fun v _ => v = .pointer (some ⟨B, 0, none⟩)),
                    (fun v _ => v = .pointer (some ⟨B, 2, none⟩)),
                    (fun v _ => v = .slice (some ⟨b', o', none⟩) rn hc),
                    (fun v _ => v = .int .i64 k),
                    (fun v _ => v = .pointer (some ⟨b', o' + k * 3, none⟩)),
                    (fun v _ => v = .pointer (some ⟨b', o' + k * 3 + 1, none⟩)),
                    (fun v _ => v = .int .i64 v2),
                    (fun v _ => v = .int .i64 s),
                    (fun v _ => v = .bool false)
                  ] (by kernel_rfl) (by kernel_rfl) (by kernel_rfl) (by decide) ⟨dstab_eq, dstab_eq, dstab_eq, dstab_eq, dstab_eq, dstab_eq, dstab_eq, dstab_eq, dstab_eq, dstab_eq, dstab_eq, dstab_eq, dstab_eq, dstab_eq, dstab_eq, dstab_eq, trivial⟩ ?steps ?fin
                case steps =>
                  refine ⟨?_, ?_, ?_, ?_, ?_, ?_, ?_, ?_, ?_, ?_, ?_, ?_, ?_, ?_, ?_, ?_, trivial⟩
                  · intro vs g w2 hI hF hR K hK
                    simp only [Facts, fill, Act.put, z1, z2, z3, z4, z5, Nat.reduceAdd] at hF hR hK ⊢
                    go_simp
                    exact hK _ () _ hI (Below.refl _ _) rfl
                  · intro vs g w2 hI hF hR K hK
                    simp only [Facts, fill, Act.put, z1, z2, z3, z4, z5, Nat.reduceAdd] at hF hR hK ⊢
                    obtain ⟨r0, -⟩ := hR
                    generalize vs 0 = x0 at *
                    subst r0
                    have k0 := (hI.cell (lt_of_cell k4)).trans k4
                    go_simp
                    exact hK _ () _ hI (Below.refl _ _) rfl
                  · intro vs g w2 hI hF hR K hK
                    simp only [Facts, fill, Act.put, z1, z2, z3, z4, z5, Nat.reduceAdd] at hF hR hK ⊢
                    go_simp
                    exact hK _ () _ hI (Below.refl _ _) rfl
                  · intro vs g w2 hI hF hR K hK
                    simp only [Facts, fill, Act.put, z1, z2, z3, z4, z5, Nat.reduceAdd] at hF hR hK ⊢
                    obtain ⟨r1, r2, -⟩ := hR
                    generalize vs 1 = x1, vs 2 = x2 at *
                    subst r1 r2
                    go_simp
                    exact hK _ () _ hI (Below.refl _ _) rfl
                  · intro vs g w2 hI hF hR K hK
                    simp only [Facts, fill, Act.put, z1, z2, z3, z4, z5, Nat.reduceAdd] at hF hR hK ⊢
                    obtain ⟨r3, -⟩ := hR
                    generalize vs 3 = x3 at *
                    subst r3
                    go_simp
                    exact hK _ () _ hI (Below.refl _ _) rfl
                  · intro vs g w2 hI hF hR K hK
                    simp only [Facts, fill, Act.put, z1, z2, z3, z4, z5, Nat.reduceAdd] at hF hR hK ⊢
                    obtain ⟨r4, -⟩ := hR
                    generalize vs 4 = x4 at *
                    subst r4
                    have k0 := (hI.cell (lt_of_cell c2)).trans c2
                    go_simp
                    exact hK _ () _ hI (Below.refl _ _) rfl
                  · intro vs g w2 hI hF hR K hK
                    simp only [Facts, fill, Act.put, z1, z2, z3, z4, z5, Nat.reduceAdd] at hF hR hK ⊢
                    obtain ⟨r5, -⟩ := hR
                    generalize vs 5 = x5 at *
                    subst r5
                    go_simp
                    exact hK _ () _ hI (Below.refl _ _) rfl
                  · intro vs g w2 hI hF hR K hK
                    simp only [Facts, fill, Act.put, z1, z2, z3, z4, z5, Nat.reduceAdd] at hF hR hK ⊢
                    go_simp
                    exact hK _ () _ hI (Below.refl _ _) rfl
                  · intro vs g w2 hI hF hR K hK
                    simp only [Facts, fill, Act.put, z1, z2, z3, z4, z5, Nat.reduceAdd] at hF hR hK ⊢
                    obtain ⟨r7, -⟩ := hR
                    generalize vs 7 = x7 at *
                    subst r7
                    go_simp
                    exact hK _ () _ hI (Below.refl _ _) rfl
                  · intro vs g w2 hI hF hR K hK
                    simp only [Facts, fill, Act.put, z1, z2, z3, z4, z5, Nat.reduceAdd] at hF hR hK ⊢
                    obtain ⟨r8, -⟩ := hR
                    generalize vs 8 = x8 at *
                    subst r8
                    have k0 := (hI.cell (lt_of_cell k2)).trans k2
                    go_simp
                    exact hK _ () _ hI (Below.refl _ _) rfl
                  · intro vs g w2 hI hF hR K hK
                    simp only [Facts, fill, Act.put, z1, z2, z3, z4, z5, Nat.reduceAdd] at hF hR hK ⊢
                    go_simp
                    exact hK _ () _ hI (Below.refl _ _) rfl
                  · intro vs g w2 hI hF hR K hK
                    simp only [Facts, fill, Act.put, z1, z2, z3, z4, z5, Nat.reduceAdd] at hF hR hK ⊢
                    obtain ⟨r9, r10, -⟩ := hR
                    generalize vs 9 = x9, vs 10 = x10 at *
                    subst r9 r10
                    go_simp
                    exact hK _ () _ hI (Below.refl _ _) rfl
                  · intro vs g w2 hI hF hR K hK
                    simp only [Facts, fill, Act.put, z1, z2, z3, z4, z5, Nat.reduceAdd] at hF hR hK ⊢
                    obtain ⟨r11, -⟩ := hR
                    generalize vs 11 = x11 at *
                    subst r11
                    go_simp
                    exact hK _ () _ hI (Below.refl _ _) rfl
                  · intro vs g w2 hI hF hR K hK
                    simp only [Facts, fill, Act.put, z1, z2, z3, z4, z5, Nat.reduceAdd] at hF hR hK ⊢
                    obtain ⟨r12, -⟩ := hR
                    generalize vs 12 = x12 at *
                    subst r12
                    have k0 := (hI.cell (lt_of_cell e1)).trans e1
                    go_simp
                    exact hK _ () _ hI (Below.refl _ _) rfl
                  · intro vs g w2 hI hF hR K hK
                    simp only [Facts, fill, Act.put, z1, z2, z3, z4, z5, Nat.reduceAdd] at hF hR hK ⊢
                    obtain ⟨r13, -⟩ := hR
                    generalize vs 13 = x13 at *
                    subst r13
                    go_simp
                    refine (sizeS v2 s _ HS.out).mono ?_
                    rintro e w3 ⟨rfl, hb⟩
                    exact hK _ () _ (hI.trans (hb.mono hI.size)) hb rfl
                  · intro vs g w2 hI hF hR K hK
                    simp only [Facts, fill, Act.put, z1, z2, z3, z4, z5, Nat.reduceAdd] at hF hR hK ⊢
                    obtain ⟨r6, r14, -⟩ := hR
                    generalize vs 6 = x6, vs 14 = x14 at *
                    subst r6 r14
                    have hd := hne
                    go_simp
                    exact hK _ () _ hI (Below.refl _ _) rfl
                case fin =>
                  intro vs w2 hI hR
                  have r15 := hR 15 (by decide)
                  simp only [fill, Act.put, z1, z2, z3, z4, z5] at r15 ⊢
                  clear hR
                  generalize vs 15 = x15 at *
                  subst r15
                  refine NoPanic.normal ?_
                  go_wp2
                  go_roundw
                  case rel => exact ⟨k + 1, by go_num, hgo, hto2, hi.next hI⟩
                  case measure => simp [intOf]; omega
              · have hne : ((m : Int) != s) = true := by rw [bne_iff_ne]; exact hq8
                have HX := Lib.hid (show er = 8 ∧ bs = [] by
                  have h1 : er = 8 := by rw [← HE.out]; exact enc_len HFE.out ⟨by simpa using HLEN.out, by rw [HNP.out, HPN.out], by rw [HNQ.out, HQN.out]⟩ (hNO.out hq8)
                  exact ⟨h1, by rw [← HBB.out, if_neg (by omega)]⟩)
                clear hq8
                go_wp2
                refine dir_plain (by kernel_rfl) 16 [[], [(57, 0)], [], [(58, 1), (59, 2)], [(60, 3)], [(61, 4)], [(62, 5)], [], [(64, 7)], [(65, 8)], [], [(66, 9), (67, 10)], [(68, 11)], [(69, 12)], [(70, 13)], [(63, 6), (71, 14)]] [(57, 0), (58, 1), (59, 2), (60, 3), (61, 4), (62, 5), (63, 6), (64, 7), (65, 8), (66, 9), (67, 10), (68, 11), (69, 12), (70, 13), (71, 14), (72, 15)] [
                    (fun v _ => v = .pointer (some ⟨B, 4, none⟩)),
                    (fun v _ => v = .slice (some ⟨b, o, none⟩) rn rc),
                    (fun v _ => v = .int .i64 k),
                    (fun v _ => v = .pointer (some ⟨b, o + k * 3, none⟩)),
                    (fun v _ => v = .pointer (some ⟨b, o + k * 3 + 2, none⟩)),
                    (fun v _ => v = .slice A2 m cc),
                    (fun v _ => v = .int .i64 m),
                    (fun v _ => v = .pointer (some ⟨B, 0, none⟩)),
                    (fun v _ => v = .pointer (some ⟨B, 2, none⟩)),
                    (fun v _ => v = .slice (some ⟨b', o', none⟩) rn hc),
                    (fun v _ => v = .int .i64 k),
                    (fun v _ => v = .pointer (some ⟨b', o' + k * 3, none⟩)),
                    (fun v _ => v = .pointer (some ⟨b', o' + k * 3 + 1, none⟩)),
                    (fun v _ => v = .int .i64 v2),
                    (fun v _ => v = .int .i64 s),
                    (fun v _ => v = .bool true)
                  ] (by kernel_rfl) (by kernel_rfl) (by kernel_rfl) (by decide) ⟨dstab_eq, dstab_eq, dstab_eq, dstab_eq, dstab_eq, dstab_eq, dstab_eq, dstab_eq, dstab_eq, dstab_eq, dstab_eq, dstab_eq, dstab_eq, dstab_eq, dstab_eq, dstab_eq, trivial⟩ ?steps ?fin
                case steps =>
                  refine ⟨?_, ?_, ?_, ?_, ?_, ?_, ?_, ?_, ?_, ?_, ?_, ?_, ?_, ?_, ?_, ?_, trivial⟩
                  · intro vs g w2 hI hF hR K hK
                    simp only [Facts, fill, Act.put, z1, z2, z3, z4, z5, Nat.reduceAdd] at hF hR hK ⊢
                    go_simp
                    exact hK _ () _ hI (Below.refl _ _) rfl
                  · intro vs g w2 hI hF hR K hK
                    simp only [Facts, fill, Act.put, z1, z2, z3, z4, z5, Nat.reduceAdd] at hF hR hK ⊢
                    obtain ⟨r0, -⟩ := hR
                    generalize vs 0 = x0 at *
                    subst r0
                    have k0 := (hI.cell (lt_of_cell k4)).trans k4
                    go_simp
                    exact hK _ () _ hI (Below.refl _ _) rfl
                  · intro vs g w2 hI hF hR K hK
                    simp only [Facts, fill, Act.put, z1, z2, z3, z4, z5, Nat.reduceAdd] at hF hR hK ⊢
                    go_simp
                    exact hK _ () _ hI (Below.refl _ _) rfl
                  · intro vs g w2 hI hF hR K hK
                    simp only [Facts, fill, Act.put, z1, z2, z3, z4, z5, Nat.reduceAdd] at hF hR hK ⊢
                    obtain ⟨r1, r2, -⟩ := hR
                    generalize vs 1 = x1, vs 2 = x2 at *
                    subst r1 r2
                    go_simp
                    exact hK _ () _ hI (Below.refl _ _) rfl
                  · intro vs g w2 hI hF hR K hK
                    simp only [Facts, fill, Act.put, z1, z2, z3, z4, z5, Nat.reduceAdd] at hF hR hK ⊢
                    obtain ⟨r3, -⟩ := hR
                    generalize vs 3 = x3 at *
                    subst r3
                    go_simp
                    exact hK _ () _ hI (Below.refl _ _) rfl
                  · intro vs g w2 hI hF hR K hK
                    simp only [Facts, fill, Act.put, z1, z2, z3, z4, z5, Nat.reduceAdd] at hF hR hK ⊢
                    obtain ⟨r4, -⟩ := hR
                    generalize vs 4 = x4 at *
                    subst r4
                    have k0 := (hI.cell (lt_of_cell c2)).trans c2
                    go_simp
                    exact hK _ () _ hI (Below.refl _ _) rfl
                  · intro vs g w2 hI hF hR K hK
                    simp only [Facts, fill, Act.put, z1, z2, z3, z4, z5, Nat.reduceAdd] at hF hR hK ⊢
                    obtain ⟨r5, -⟩ := hR
                    generalize vs 5 = x5 at *
                    subst r5
                    go_simp
                    exact hK _ () _ hI (Below.refl _ _) rfl
                  · intro vs g w2 hI hF hR K hK
                    simp only [Facts, fill, Act.put, z1, z2, z3, z4, z5, Nat.reduceAdd] at hF hR hK ⊢
                    go_simp
                    exact hK _ () _ hI (Below.refl _ _) rfl
                  · intro vs g w2 hI hF hR K hK
                    simp only [Facts, fill, Act.put, z1, z2, z3, z4, z5, Nat.reduceAdd] at hF hR hK ⊢
                    obtain ⟨r7, -⟩ := hR
                    generalize vs 7 = x7 at *
                    subst r7
                    go_simp
                    exact hK _ () _ hI (Below.refl _ _) rfl
                  · intro vs g w2 hI hF hR K hK
                    simp only [Facts, fill, Act.put, z1, z2, z3, z4, z5, Nat.reduceAdd] at hF hR hK ⊢
                    obtain ⟨r8, -⟩ := hR
                    generalize vs 8 = x8 at *
                    subst r8
                    have k0 := (hI.cell (lt_of_cell k2)).trans k2
                    go_simp
                    exact hK _ () _ hI (Below.refl _ _) rfl
                  · intro vs g w2 hI hF hR K hK
                    simp only [Facts, fill, Act.put, z1, z2, z3, z4, z5, Nat.reduceAdd] at hF hR hK ⊢
                    go_simp
                    exact hK _ () _ hI (Below.refl _ _) rfl
                  · intro vs g w2 hI hF hR K hK
                    simp only [Facts, fill, Act.put, z1, z2, z3, z4, z5, Nat.reduceAdd] at hF hR hK ⊢
                    obtain ⟨r9, r10, -⟩ := hR
                    generalize vs 9 = x9, vs 10 = x10 at *
                    subst r9 r10
                    go_simp
                    exact hK _ () _ hI (Below.refl _ _) rfl
                  · intro vs g w2 hI hF hR K hK
                    simp only [Facts, fill, Act.put, z1, z2, z3, z4, z5, Nat.reduceAdd] at hF hR hK ⊢
                    obtain ⟨r11, -⟩ := hR
                    generalize vs 11 = x11 at *
                    subst r11
                    go_simp
                    exact hK _ () _ hI (Below.refl _ _) rfl
                  · intro vs g w2 hI hF hR K hK
                    simp only [Facts, fill, Act.put, z1, z2, z3, z4, z5, Nat.reduceAdd] at hF hR hK ⊢
                    obtain ⟨r12, -⟩ := hR
                    generalize vs 12 = x12 at *
                    subst r12
                    have k0 := (hI.cell (lt_of_cell e1)).trans e1
                    go_simp
                    exact hK _ () _ hI (Below.refl _ _) rfl
                  · intro vs g w2 hI hF hR K hK
                    simp only [Facts, fill, Act.put, z1, z2, z3, z4, z5, Nat.reduceAdd] at hF hR hK ⊢
                    obtain ⟨r13, -⟩ := hR
                    generalize vs 13 = x13 at *
                    subst r13
                    go_simp
                    refine (sizeS v2 s _ HS.out).mono ?_
                    rintro e w3 ⟨rfl, hb⟩
                    exact hK _ () _ (hI.trans (hb.mono hI.size)) hb rfl
                  · intro vs g w2 hI hF hR K hK
                    simp only [Facts, fill, Act.put, z1, z2, z3, z4, z5, Nat.reduceAdd] at hF hR hK ⊢
                    obtain ⟨r6, r14, -⟩ := hR
                    generalize vs 6 = x6, vs 14 = x14 at *
                    subst r6 r14
                    have hd := hne
                    go_simp
                    exact hK _ () _ hI (Below.refl _ _) rfl
                case fin =>
                  intro vs w2 hI hR
                  have r15 := hR 15 (by decide)
                  simp only [fill, Act.put, z1, z2, z3, z4, z5] at r15 ⊢
                  clear hR
                  generalize vs 15 = x15 at *
                  subst r15
                  refine NoPanic.normal ?_
                  go_wp2
                  exact bodyPost_ret (v := .tuple #[.slice none 0 0, .int .i64 8]) (by simp [results, Tryd.results12, go_sem]) rfl (by have h9 := h0.trans ((hi.next hI).below.mono h0.size); rw [HX.out.1]; exact givesB_bad (by decide) (HX.out.2) h9)
            · have hke : k = rs.length := by omega
              subst hke
              have HL := HTO.out
              have HLA := Lib.hid ((lens_to HLEN.out).2 HL)
              have HL64 := Lib.hid (show ∀ (j : Nat) (h : j < rs.length), rs[j].l.length ≤ 64 from fun j h => by
                have h1 := HL j h (by rw [← HLEN.out]; exact h) h
                have h2 := sizeF_bd (hrs[j]'(by rw [← HLEN.out]; exact h)).v
                omega)
              have hrnk : ¬ ((rs.length : Int) < rn) := by have := HRN.out; omega
              have hi0 : ERel2 W fs rs hrs v1 (.int .i64 0) _ := ⟨0, rfl, Nat.zero_le _, fun j _ _ h => absurd h (Nat.not_lt_zero j), by rw [List.take_zero, show fs ++ rgsB ([].map rgD) = fs from by simp [rgsB]]; exact hi⟩
              clear HL hgo hk
              go_wp2
              go_loopw [4, 9] (fun b i wr => ERel2 W fs rs hrs b i wr) (fun _ i _ => rs.length - (intOf i).toNat)
              case atStart => exact hi0
              case round =>
                clear hi0 hi k0 k1 k2 k3 k4 k5 k6
                obtain ⟨k, rfl, hk, hto, hi⟩ := hrel
                obtain ⟨k0, k1, k2, k3, k4, k5, k6⟩ := HBX.out.next hi.below hBW
                have HTO := Lib.hid hto
                clear hto
                by_cases hgo : k < rs.length
                · have hgh : k < hrs.length := by rw [← HLEN.out]; exact hgo
                  obtain ⟨b, o, rfl, hT, cw0, cw1, cw2⟩ := HRow.out.1.rg2 hgo
                  obtain ⟨b', o', rfl, hT', ew0, ew1, ew2⟩ := HHW.out.rg2 hgh
                  have HSC := Lib.hid (fun e => KindsTo.succ HTO.out hgo hgh e)
                  have hNO := Lib.hid (fun (e : ¬ ((rs[k]).d = (hrs[k]).d ∧ (rs[k]).v = (hrs[k]).v)) => show kinds (rs.map rgD) (hrs.map rgK) = false from by
                    cases hb : kinds (rs.map rgD) (hrs.map rgK) with
                    | false => rfl
                    | true => exact absurd (((kinds_to HLEN.out).1 hb) k hgo hgh hgo) e)
                  have HRG := Lib.hid (HRow.out.2.1 _ (List.getElem_mem hgo))
                  have HSN := Lib.hid (rgsB_snoc hgo)
                  have hm64 := HL64.out k hgo
                  have HYL := Lib.hid (rgsB_le HL64.out k hk)
                  generalize hrw : rs[k] = r at cw0 cw1 cw2 HSC hNO HRG HSN hm64
                  clear hrw
                  obtain ⟨da, va, A2, cc, pl⟩ := r
                  simp only at cw0 cw1 cw2 HSC hNO HRG HSN hm64
                  obtain ⟨m, hm⟩ : ∃ m, pl.length = m := ⟨_, rfl⟩
                  rw [hm] at cw2 hm64
                  generalize (hrs[k]).d = db at ew0 HSC hNO
                  generalize (hrs[k]).v = vb at ew1 HSC hNO
                  have c0 := (hi.below.cell (lt_of_cell cw0)).trans cw0
                  have c1 := (hi.below.cell (lt_of_cell cw1)).trans cw1
                  have e0 := (hi.below.cell (lt_of_cell ew0)).trans ew0
                  have e1 := (hi.below.cell (lt_of_cell ew1)).trans ew1
                  have hkr : (k : Int) < rn := by have := HRN.out; omega
                  have HM := Lib.hid hm
                  have HCW := Lib.hid (And.intro cw0 (And.intro cw1 cw2))
                  clear cw0 cw1 cw2 ew0 ew1 ew2 hT hT' hm
                  by_cases hdd : da = db
                  · by_cases hvv : va = vb
                    · have hne1 : (da != db) = false := by rw [bne_eq_false_iff_eq]; exact hdd
                      have hne2 : (va != vb) = false := by rw [bne_eq_false_iff_eq]; exact hvv
                      have HTO2 := Lib.hid (HSC.out ⟨hdd, hvv⟩)
                      clear hdd hvv
                      go_wp2
                      refine dir_plain (by kernel_rfl) 30 [[], [(80, 0)], [], [(81, 1), (82, 2)], [(83, 3)], [(84, 4)], [], [(86, 6)], [(87, 7)], [], [(88, 8), (89, 9)], [(90, 10)], [(91, 11)], [(85, 5), (92, 12)], [(93, 13)], [(94, 14)], [(94, 14), (95, 15)], [(94, 14)], [(94, 14), (96, 16), (97, 17)], [(94, 14), (98, 18)], [(94, 14), (99, 19)], [(94, 14)], [(94, 14), (101, 21)], [(94, 14), (102, 22)], [(94, 14)], [(94, 14), (103, 23), (104, 24)], [(94, 14), (105, 25)], [(94, 14), (106, 26)], [(94, 14), (100, 20), (107, 27)], [(94, 14), (108, 28)]] [(80, 0), (81, 1), (82, 2), (83, 3), (84, 4), (85, 5), (86, 6), (87, 7), (88, 8), (89, 9), (90, 10), (91, 11), (92, 12), (93, 13), (94, 14), (95, 15), (96, 16), (97, 17), (98, 18), (99, 19), (100, 20), (101, 21), (102, 22), (103, 23), (104, 24), (105, 25), (106, 26), (107, 27), (108, 28), (109, 29)] [
                          (fun v _ => v = .pointer (some ⟨B, 4, none⟩)),
                          (fun v _ => v = .slice (some ⟨b, o, none⟩) rn rc),
                          (fun v _ => v = .int .i64 k),
                          (fun v _ => v = .pointer (some ⟨b, o + k * 3, none⟩)),
                          (fun v _ => v = .pointer (some ⟨b, o + k * 3, none⟩)),
                          (fun v _ => v = .bool da),
                          (fun v _ => v = .pointer (some ⟨B, 0, none⟩)),
                          (fun v _ => v = .pointer (some ⟨B, 2, none⟩)),
                          (fun v _ => v = .slice (some ⟨b', o', none⟩) rn hc),
                          (fun v _ => v = .int .i64 k),
                          (fun v _ => v = .pointer (some ⟨b', o' + k * 3, none⟩)),
                          (fun v _ => v = .pointer (some ⟨b', o' + k * 3, none⟩)),
                          (fun v _ => v = .bool db),
                          (fun v _ => v = .bool false),
                          (fun v _ => v = .bool false),
                          (fun v _ => v = .pointer (some ⟨B, 4, none⟩)),
                          (fun v _ => v = .slice (some ⟨b, o, none⟩) rn rc),
                          (fun v _ => v = .int .i64 k),
                          (fun v _ => v = .pointer (some ⟨b, o + k * 3, none⟩)),
                          (fun v _ => v = .pointer (some ⟨b, o + k * 3 + 1, none⟩)),
                          (fun v _ => v = .int .i64 va),
                          (fun v _ => v = .pointer (some ⟨B, 0, none⟩)),
                          (fun v _ => v = .pointer (some ⟨B, 2, none⟩)),
                          (fun v _ => v = .slice (some ⟨b', o', none⟩) rn hc),
                          (fun v _ => v = .int .i64 k),
                          (fun v _ => v = .pointer (some ⟨b', o' + k * 3, none⟩)),
                          (fun v _ => v = .pointer (some ⟨b', o' + k * 3 + 1, none⟩)),
                          (fun v _ => v = .int .i64 vb),
                          (fun v _ => v = .bool false),
                          (fun v _ => v = .bool false)
                        ] (by kernel_rfl) (by kernel_rfl) (by kernel_rfl) (by decide) ⟨dstab_eq, dstab_eq, dstab_eq, dstab_eq, dstab_eq, dstab_eq, dstab_eq, dstab_eq, dstab_eq, dstab_eq, dstab_eq, dstab_eq, dstab_eq, dstab_eq, dstab_eq, dstab_eq, dstab_eq, dstab_eq, dstab_eq, dstab_eq, dstab_eq, dstab_eq, dstab_eq, dstab_eq, dstab_eq, dstab_eq, dstab_eq, dstab_eq, dstab_eq, dstab_eq, trivial⟩ ?steps ?fin
                      case steps =>
                        refine ⟨?_, ?_, ?_, ?_, ?_, ?_, ?_, ?_, ?_, ?_, ?_, ?_, ?_, ?_, ?_, ?_, ?_, ?_, ?_, ?_, ?_, ?_, ?_, ?_, ?_, ?_, ?_, ?_, ?_, ?_, trivial⟩
                        · intro vs g w2 hI hF hR K hK
                          simp only [Facts, fill, Act.put, z1, z2, z3, z4, z5, Nat.reduceAdd] at hF hR hK ⊢
                          go_simp
                          exact hK _ () _ hI (Below.refl _ _) rfl
                        · intro vs g w2 hI hF hR K hK
                          simp only [Facts, fill, Act.put, z1, z2, z3, z4, z5, Nat.reduceAdd] at hF hR hK ⊢
                          obtain ⟨r0, -⟩ := hR
                          generalize vs 0 = x0 at *
                          subst r0
                          have k0 := (hI.cell (lt_of_cell k4)).trans k4
                          go_simp
                          exact hK _ () _ hI (Below.refl _ _) rfl
                        · intro vs g w2 hI hF hR K hK
                          simp only [Facts, fill, Act.put, z1, z2, z3, z4, z5, Nat.reduceAdd] at hF hR hK ⊢
                          go_simp
                          exact hK _ () _ hI (Below.refl _ _) rfl
                        · intro vs g w2 hI hF hR K hK
                          simp only [Facts, fill, Act.put, z1, z2, z3, z4, z5, Nat.reduceAdd] at hF hR hK ⊢
                          obtain ⟨r1, r2, -⟩ := hR
                          generalize vs 1 = x1, vs 2 = x2 at *
                          subst r1 r2
                          go_simp
                          exact hK _ () _ hI (Below.refl _ _) rfl
                        · intro vs g w2 hI hF hR K hK
                          simp only [Facts, fill, Act.put, z1, z2, z3, z4, z5, Nat.reduceAdd] at hF hR hK ⊢
                          obtain ⟨r3, -⟩ := hR
                          generalize vs 3 = x3 at *
                          subst r3
                          go_simp
                          exact hK _ () _ hI (Below.refl _ _) rfl
                        · intro vs g w2 hI hF hR K hK
                          simp only [Facts, fill, Act.put, z1, z2, z3, z4, z5, Nat.reduceAdd] at hF hR hK ⊢
                          obtain ⟨r4, -⟩ := hR
                          generalize vs 4 = x4 at *
                          subst r4
                          have k0 := (hI.cell (lt_of_cell c0)).trans c0
                          go_simp
                          exact hK _ () _ hI (Below.refl _ _) rfl
                        · intro vs g w2 hI hF hR K hK
                          simp only [Facts, fill, Act.put, z1, z2, z3, z4, z5, Nat.reduceAdd] at hF hR hK ⊢
                          go_simp
                          exact hK _ () _ hI (Below.refl _ _) rfl
                        · intro vs g w2 hI hF hR K hK
                          simp only [Facts, fill, Act.put, z1, z2, z3, z4, z5, Nat.reduceAdd] at hF hR hK ⊢
                          obtain ⟨r6, -⟩ := hR
                          generalize vs 6 = x6 at *
                          subst r6
                          go_simp
                          exact hK _ () _ hI (Below.refl _ _) rfl
                        · intro vs g w2 hI hF hR K hK
                          simp only [Facts, fill, Act.put, z1, z2, z3, z4, z5, Nat.reduceAdd] at hF hR hK ⊢
                          obtain ⟨r7, -⟩ := hR
                          generalize vs 7 = x7 at *
                          subst r7
                          have k0 := (hI.cell (lt_of_cell k2)).trans k2
                          go_simp
                          exact hK _ () _ hI (Below.refl _ _) rfl
                        · intro vs g w2 hI hF hR K hK
                          simp only [Facts, fill, Act.put, z1, z2, z3, z4, z5, Nat.reduceAdd] at hF hR hK ⊢
                          go_simp
                          exact hK _ () _ hI (Below.refl _ _) rfl
                        · intro vs g w2 hI hF hR K hK
                          simp only [Facts, fill, Act.put, z1, z2, z3, z4, z5, Nat.reduceAdd] at hF hR hK ⊢
                          obtain ⟨r8, r9, -⟩ := hR
                          generalize vs 8 = x8, vs 9 = x9 at *
                          subst r8 r9
                          go_simp
                          exact hK _ () _ hI (Below.refl _ _) rfl
                        · intro vs g w2 hI hF hR K hK
                          simp only [Facts, fill, Act.put, z1, z2, z3, z4, z5, Nat.reduceAdd] at hF hR hK ⊢
                          obtain ⟨r10, -⟩ := hR
                          generalize vs 10 = x10 at *
                          subst r10
                          go_simp
                          exact hK _ () _ hI (Below.refl _ _) rfl
                        · intro vs g w2 hI hF hR K hK
                          simp only [Facts, fill, Act.put, z1, z2, z3, z4, z5, Nat.reduceAdd] at hF hR hK ⊢
                          obtain ⟨r11, -⟩ := hR
                          generalize vs 11 = x11 at *
                          subst r11
                          have k0 := (hI.cell (lt_of_cell e0)).trans e0
                          go_simp
                          exact hK _ () _ hI (Below.refl _ _) rfl
                        · intro vs g w2 hI hF hR K hK
                          simp only [Facts, fill, Act.put, z1, z2, z3, z4, z5, Nat.reduceAdd] at hF hR hK ⊢
                          obtain ⟨r5, r12, -⟩ := hR
                          generalize vs 5 = x5, vs 12 = x12 at *
                          subst r5 r12
                          have hd := hne1
                          go_simp
                          exact hK _ () _ hI (Below.refl _ _) (congrArg Value.bool hne1)
                        · intro vs g w2 hI hF hR K hK
                          simp only [Facts, fill, Act.put, z1, z2, z3, z4, z5, Nat.reduceAdd] at hF hR hK ⊢
                          obtain ⟨r13, -⟩ := hR
                          generalize vs 13 = x13 at *
                          subst r13
                          go_simp
                          exact hK _ () _ hI (Below.refl _ _) rfl
                        · intro vs g w2 hI hF hR K hK
                          simp only [Facts, fill, Act.put, z1, z2, z3, z4, z5, Nat.reduceAdd] at hF hR hK ⊢
                          obtain ⟨r14, -⟩ := hR
                          generalize vs 14 = x14 at *
                          subst r14
                          go_simp
                          exact hK _ () _ hI (Below.refl _ _) rfl
                        · intro vs g w2 hI hF hR K hK
                          simp only [Facts, fill, Act.put, z1, z2, z3, z4, z5, Nat.reduceAdd] at hF hR hK ⊢
                          obtain ⟨r14, r15, -⟩ := hR
                          generalize vs 14 = x14, vs 15 = x15 at *
                          subst r14 r15
                          have k0 := (hI.cell (lt_of_cell k4)).trans k4
                          go_simp
                          exact hK _ () _ hI (Below.refl _ _) rfl
                        · intro vs g w2 hI hF hR K hK
                          simp only [Facts, fill, Act.put, z1, z2, z3, z4, z5, Nat.reduceAdd] at hF hR hK ⊢
                          obtain ⟨r14, -⟩ := hR
                          generalize vs 14 = x14 at *
                          subst r14
                          go_simp
                          exact hK _ () _ hI (Below.refl _ _) rfl
                        · intro vs g w2 hI hF hR K hK
                          simp only [Facts, fill, Act.put, z1, z2, z3, z4, z5, Nat.reduceAdd] at hF hR hK ⊢
                          obtain ⟨r14, r16, r17, -⟩ := hR
                          generalize vs 14 = x14, vs 16 = x16, vs 17 = x17 at *
                          subst r14 r16 r17
                          go_simp
                          exact hK _ () _ hI (Below.refl _ _) rfl
                        · intro vs g w2 hI hF hR K hK
                          simp only [Facts, fill, Act.put, z1, z2, z3, z4, z5, Nat.reduceAdd] at hF hR hK ⊢
                          obtain ⟨r14, r18, -⟩ := hR
                          generalize vs 14 = x14, vs 18 = x18 at *
                          subst r14 r18
                          go_simp
                          exact hK _ () _ hI (Below.refl _ _) rfl
                        · intro vs g w2 hI hF hR K hK
                          simp only [Facts, fill, Act.put, z1, z2, z3, z4, z5, Nat.reduceAdd] at hF hR hK ⊢
                          obtain ⟨r14, r19, -⟩ := hR
                          generalize vs 14 = x14, vs 19 = x19 at *
                          subst r14 r19
                          have k0 := (hI.cell (lt_of_cell c1)).trans c1
                          go_simp
                          exact hK _ () _ hI (Below.refl _ _) rfl
                        · intro vs g w2 hI hF hR K hK
                          simp only [Facts, fill, Act.put, z1, z2, z3, z4, z5, Nat.reduceAdd] at hF hR hK ⊢
                          obtain ⟨r14, -⟩ := hR
                          generalize vs 14 = x14 at *
                          subst r14
                          go_simp
                          exact hK _ () _ hI (Below.refl _ _) rfl
                        · intro vs g w2 hI hF hR K hK
                          simp only [Facts, fill, Act.put, z1, z2, z3, z4, z5, Nat.reduceAdd] at hF hR hK ⊢
                          obtain ⟨r14, r21, -⟩ := hR
                          generalize vs 14 = x14, vs 21 = x21 at *
                          subst r14 r21
                          go_simp
                          exact hK _ () _ hI (Below.refl _ _) rfl
                        · intro vs g w2 hI hF hR K hK
                          simp only [Facts, fill, Act.put, z1, z2, z3, z4, z5, Nat.reduceAdd] at hF hR hK ⊢
                          obtain ⟨r14, r22, -⟩ := hR
                          generalize vs 14 = x14, vs 22 = x22 at *
                          subst r14 r22
                          have k0 := (hI.cell (lt_of_cell k2)).trans k2
                          go_simp
                          exact hK _ () _ hI (Below.refl _ _) rfl
                        · intro vs g w2 hI hF hR K hK
                          simp only [Facts, fill, Act.put, z1, z2, z3, z4, z5, Nat.reduceAdd] at hF hR hK ⊢
                          obtain ⟨r14, -⟩ := hR
                          generalize vs 14 = x14 at *
                          subst r14
                          go_simp
                          exact hK _ () _ hI (Below.refl _ _) rfl
                        · intro vs g w2 hI hF hR K hK
                          simp only [Facts, fill, Act.put, z1, z2, z3, z4, z5, Nat.reduceAdd] at hF hR hK ⊢
                          obtain ⟨r14, r23, r24, -⟩ := hR
                          generalize vs 14 = x14, vs 23 = x23, vs 24 = x24 at *
                          subst r14 r23 r24
                          go_simp
                          exact hK _ () _ hI (Below.refl _ _) rfl
                        · intro vs g w2 hI hF hR K hK
                          simp only [Facts, fill, Act.put, z1, z2, z3, z4, z5, Nat.reduceAdd] at hF hR hK ⊢
                          obtain ⟨r14, r25, -⟩ := hR
                          generalize vs 14 = x14, vs 25 = x25 at *
                          subst r14 r25
                          go_simp
                          exact hK _ () _ hI (Below.refl _ _) rfl
                        · intro vs g w2 hI hF hR K hK
                          simp only [Facts, fill, Act.put, z1, z2, z3, z4, z5, Nat.reduceAdd] at hF hR hK ⊢
                          obtain ⟨r14, r26, -⟩ := hR
                          generalize vs 14 = x14, vs 26 = x26 at *
                          subst r14 r26
                          have k0 := (hI.cell (lt_of_cell e1)).trans e1
                          go_simp
                          exact hK _ () _ hI (Below.refl _ _) rfl
                        · intro vs g w2 hI hF hR K hK
                          simp only [Facts, fill, Act.put, z1, z2, z3, z4, z5, Nat.reduceAdd] at hF hR hK ⊢
                          obtain ⟨r14, r20, r27, -⟩ := hR
                          generalize vs 14 = x14, vs 20 = x20, vs 27 = x27 at *
                          subst r14 r20 r27
                          have hd := hne2
                          go_simp
                          exact hK _ () _ hI (Below.refl _ _) rfl
                        · intro vs g w2 hI hF hR K hK
                          simp only [Facts, fill, Act.put, z1, z2, z3, z4, z5, Nat.reduceAdd] at hF hR hK ⊢
                          obtain ⟨r14, r28, -⟩ := hR
                          generalize vs 14 = x14, vs 28 = x28 at *
                          subst r14 r28
                          go_simp
                          exact hK _ () _ hI (Below.refl _ _) rfl
                      case fin =>
                        intro vs w2 hI hR
                        have r29 := hR 29 (by decide)
                        simp only [fill, Act.put, z1, z2, z3, z4, z5] at r29 ⊢
                        clear hR
                        generalize vs 29 = x29 at *
                        subst r29
                        refine NoPanic.normal ?_
                        have hi5 := hi.next hI
                        clear hi hI k0 k1 k2 k3 k4 k5 k6 c0 c1 e0 e1
                        go_wp2
                        obtain ⟨ys, hys⟩ : ∃ ys, ys = fs ++ rgsB ((rs.take k).map rgD) := ⟨_, rfl⟩
                        rw [← hys] at hi5
                        have hyl : ys.length ≤ 68 + 65536 := by rw [hys, List.length_append]; have := HYL.out; omega
                        have HYS := Lib.hid hys
                        clear hys
                        go_loopw [4, 10] (fun b j wr => ERel3 W ys pl b j wr) (fun _ j _ => m - (intOf j).toNat)
                        case atStart => exact ⟨0, rfl, Nat.zero_le _, by rw [List.take_zero, List.flatMap_nil, List.append_nil]; exact hi5⟩
                        case round =>
                          clear hi5
                          obtain ⟨j, rfl, hj, hij⟩ := hrel
                          obtain ⟨k0, k1, k2, k3, k4, k5, k6⟩ := HBX.out.next hij.below hBW
                          have c2 := (hij.below.cell (lt_of_cell HCW.out.2.2)).trans HCW.out.2.2
                          by_cases hjm : j < pl.length
                          · obtain ⟨pb, po, hA, _, p0, p1⟩ := HRG.out.row.p2 hjm
                            simp only at hA
                            subst hA
                            have HFL := Lib.hid (flat_snoc ptB hjm)
                            have HPS := Lib.hid (HRG.out.ss _ (List.getElem_mem hjm))
                            have hfl2 := flat_take_le ptB_len pl j
                            have q0 := (hij.below.cell (lt_of_cell p0)).trans p0
                            have q1 := (hij.below.cell (lt_of_cell p1)).trans p1
                            generalize pl[j] = P at q0 q1 HFL HPS
                            have hjr : (j : Int) < m := by have := HM.out; omega
                            have hlen : (ys ++ (pl.take j).flatMap ptB).length ≤ 800000 := by rw [List.length_append]; have := HM.out; omega
                            have HJ := Lib.hid hij
                            have hbs := hij.below.size
                            clear p0 p1 hfl2
                            go_wp2_with (fail)
                            refine (ref18Point_any W.heap.size _ _ P wr HJ.out.row hlen hbs HPS.out).mono ?_
                            rintro e w5 ⟨b5, rfl, hg5⟩
                            have hi6 := HJ.out.grow hg5
                            go_wp2
                            go_roundw
                            case rel => exact ⟨j + 1, by go_num, hjm, by rw [HFL.out, ← List.append_assoc]; exact hi6⟩
                            case measure => have := HM.out; simp [intOf]; omega
                          · have hjr : ¬ ((j : Int) < m) := by have := HM.out; omega
                            have HFA := Lib.hid (show pl.take j = pl from List.take_of_length_le (by omega))
                            rw [HFA.out] at hij
                            go_wp2
                            go_roundw
                            case rel => exact ⟨k + 1, by go_num, hgo, HTO2.out, by rw [HSN.out, ← List.append_assoc, ← HYS.out]; exact hij⟩
                            case measure => simp [intOf]; omega
                    · have hne1 : (da != db) = false := by rw [bne_eq_false_iff_eq]; exact hdd
                      have hne2 : (va != vb) = true := by rw [bne_iff_ne]; exact hvv
                      have HX := Lib.hid (show er = 2 ∧ bs = [] by
                        have h1 : er = 2 := by rw [← HE.out]; exact enc_kind HFE.out ⟨by simpa using HLEN.out, by rw [HNP.out, HPN.out], by rw [HNQ.out, HQN.out]⟩ HLA.out (hNO.out (fun h => hvv h.2))
                        exact ⟨h1, by rw [← HBB.out, if_neg (by omega)]⟩)
                      clear hdd hvv
                      go_wp2
                      refine dir_plain (by kernel_rfl) 30 [[], [(80, 0)], [], [(81, 1), (82, 2)], [(83, 3)], [(84, 4)], [], [(86, 6)], [(87, 7)], [], [(88, 8), (89, 9)], [(90, 10)], [(91, 11)], [(85, 5), (92, 12)], [(93, 13)], [(94, 14)], [(94, 14), (95, 15)], [(94, 14)], [(94, 14), (96, 16), (97, 17)], [(94, 14), (98, 18)], [(94, 14), (99, 19)], [(94, 14)], [(94, 14), (101, 21)], [(94, 14), (102, 22)], [(94, 14)], [(94, 14), (103, 23), (104, 24)], [(94, 14), (105, 25)], [(94, 14), (106, 26)], [(94, 14), (100, 20), (107, 27)], [(94, 14), (108, 28)]] [(80, 0), (81, 1), (82, 2), (83, 3), (84, 4), (85, 5), (86, 6), (87, 7), (88, 8), (89, 9), (90, 10), (91, 11), (92, 12), (93, 13), (94, 14), (95, 15), (96, 16), (97, 17), (98, 18), (99, 19), (100, 20), (101, 21), (102, 22), (103, 23), (104, 24), (105, 25), (106, 26), (107, 27), (108, 28), (109, 29)] [
                          (fun v _ => v = .pointer (some ⟨B, 4, none⟩)),
                          (fun v _ => v = .slice (some ⟨b, o, none⟩) rn rc),
                          (fun v _ => v = .int .i64 k),
                          (fun v _ => v = .pointer (some ⟨b, o + k * 3, none⟩)),
                          (fun v _ => v = .pointer (some ⟨b, o + k * 3, none⟩)),
                          (fun v _ => v = .bool da),
                          (fun v _ => v = .pointer (some ⟨B, 0, none⟩)),
                          (fun v _ => v = .pointer (some ⟨B, 2, none⟩)),
                          (fun v _ => v = .slice (some ⟨b', o', none⟩) rn hc),
                          (fun v _ => v = .int .i64 k),
                          (fun v _ => v = .pointer (some ⟨b', o' + k * 3, none⟩)),
                          (fun v _ => v = .pointer (some ⟨b', o' + k * 3, none⟩)),
                          (fun v _ => v = .bool db),
                          (fun v _ => v = .bool false),
                          (fun v _ => v = .bool false),
                          (fun v _ => v = .pointer (some ⟨B, 4, none⟩)),
                          (fun v _ => v = .slice (some ⟨b, o, none⟩) rn rc),
                          (fun v _ => v = .int .i64 k),
                          (fun v _ => v = .pointer (some ⟨b, o + k * 3, none⟩)),
                          (fun v _ => v = .pointer (some ⟨b, o + k * 3 + 1, none⟩)),
                          (fun v _ => v = .int .i64 va),
                          (fun v _ => v = .pointer (some ⟨B, 0, none⟩)),
                          (fun v _ => v = .pointer (some ⟨B, 2, none⟩)),
                          (fun v _ => v = .slice (some ⟨b', o', none⟩) rn hc),
                          (fun v _ => v = .int .i64 k),
                          (fun v _ => v = .pointer (some ⟨b', o' + k * 3, none⟩)),
                          (fun v _ => v = .pointer (some ⟨b', o' + k * 3 + 1, none⟩)),
                          (fun v _ => v = .int .i64 vb),
                          (fun v _ => v = .bool true),
                          (fun v _ => v = .bool true)
                        ] (by kernel_rfl) (by kernel_rfl) (by kernel_rfl) (by decide) ⟨dstab_eq, dstab_eq, dstab_eq, dstab_eq, dstab_eq, dstab_eq, dstab_eq, dstab_eq, dstab_eq, dstab_eq, dstab_eq, dstab_eq, dstab_eq, dstab_eq, dstab_eq, dstab_eq, dstab_eq, dstab_eq, dstab_eq, dstab_eq, dstab_eq, dstab_eq, dstab_eq, dstab_eq, dstab_eq, dstab_eq, dstab_eq, dstab_eq, dstab_eq, dstab_eq, trivial⟩ ?steps ?fin
                      case steps =>
                        refine ⟨?_, ?_, ?_, ?_, ?_, ?_, ?_, ?_, ?_, ?_, ?_, ?_, ?_, ?_, ?_, ?_, ?_, ?_, ?_, ?_, ?_, ?_, ?_, ?_, ?_, ?_, ?_, ?_, ?_, ?_, trivial⟩
                        · intro vs g w2 hI hF hR K hK
                          simp only [Facts, fill, Act.put, z1, z2, z3, z4, z5, Nat.reduceAdd] at hF hR hK ⊢
                          go_simp
                          exact hK _ () _ hI (Below.refl _ _) rfl
                        · intro vs g w2 hI hF hR K hK
                          simp only [Facts, fill, Act.put, z1, z2, z3, z4, z5, Nat.reduceAdd] at hF hR hK ⊢
                          obtain ⟨r0, -⟩ := hR
                          generalize vs 0 = x0 at *
                          subst r0
                          have k0 := (hI.cell (lt_of_cell k4)).trans k4
                          go_simp
                          exact hK _ () _ hI (Below.refl _ _) rfl
                        · intro vs g w2 hI hF hR K hK
                          simp only [Facts, fill, Act.put, z1, z2, z3, z4, z5, Nat.reduceAdd] at hF hR hK ⊢
                          go_simp
                          exact hK _ () _ hI (Below.refl _ _) rfl
                        · intro vs g w2 hI hF hR K hK
                          simp only [Facts, fill, Act.put, z1, z2, z3, z4, z5, Nat.reduceAdd] at hF hR hK ⊢
                          obtain ⟨r1, r2, -⟩ := hR
                          generalize vs 1 = x1, vs 2 = x2 at *
                          subst r1 r2
                          go_simp
                          exact hK _ () _ hI (Below.refl _ _) rfl
                        · intro vs g w2 hI hF hR K hK
                          simp only [Facts, fill, Act.put, z1, z2, z3, z4, z5, Nat.reduceAdd] at hF hR hK ⊢
                          obtain ⟨r3, -⟩ := hR
                          generalize vs 3 = x3 at *
                          subst r3
                          go_simp
                          exact hK _ () _ hI (Below.refl _ _) rfl
                        · intro vs g w2 hI hF hR K hK
                          simp only [Facts, fill, Act.put, z1, z2, z3, z4, z5, Nat.reduceAdd] at hF hR hK ⊢
                          obtain ⟨r4, -⟩ := hR
                          generalize vs 4 = x4 at *
                          subst r4
                          have k0 := (hI.cell (lt_of_cell c0)).trans c0
                          go_simp
                          exact hK _ () _ hI (Below.refl _ _) rfl
                        · intro vs g w2 hI hF hR K hK
                          simp only [Facts, fill, Act.put, z1, z2, z3, z4, z5, Nat.reduceAdd] at hF hR hK ⊢
                          go_simp
                          exact hK _ () _ hI (Below.refl _ _) rfl
                        · intro vs g w2 hI hF hR K hK
                          simp only [Facts, fill, Act.put, z1, z2, z3, z4, z5, Nat.reduceAdd] at hF hR hK ⊢
                          obtain ⟨r6, -⟩ := hR
                          generalize vs 6 = x6 at *
                          subst r6
                          go_simp
                          exact hK _ () _ hI (Below.refl _ _) rfl
                        · intro vs g w2 hI hF hR K hK
                          simp only [Facts, fill, Act.put, z1, z2, z3, z4, z5, Nat.reduceAdd] at hF hR hK ⊢
                          obtain ⟨r7, -⟩ := hR
                          generalize vs 7 = x7 at *
                          subst r7
                          have k0 := (hI.cell (lt_of_cell k2)).trans k2
                          go_simp
                          exact hK _ () _ hI (Below.refl _ _) rfl
                        · intro vs g w2 hI hF hR K hK
                          simp only [Facts, fill, Act.put, z1, z2, z3, z4, z5, Nat.reduceAdd] at hF hR hK ⊢
                          go_simp
                          exact hK _ () _ hI (Below.refl _ _) rfl
                        · intro vs g w2 hI hF hR K hK
                          simp only [Facts, fill, Act.put, z1, z2, z3, z4, z5, Nat.reduceAdd] at hF hR hK ⊢
                          obtain ⟨r8, r9, -⟩ := hR
                          generalize vs 8 = x8, vs 9 = x9 at *
                          subst r8 r9
                          go_simp
                          exact hK _ () _ hI (Below.refl _ _) rfl
                        · intro vs g w2 hI hF hR K hK
                          simp only [Facts, fill, Act.put, z1, z2, z3, z4, z5, Nat.reduceAdd] at hF hR hK ⊢
                          obtain ⟨r10, -⟩ := hR
                          generalize vs 10 = x10 at *
                          subst r10
                          go_simp
                          exact hK _ () _ hI (Below.refl _ _) rfl
                        · intro vs g w2 hI hF hR K hK
                          simp only [Facts, fill, Act.put, z1, z2, z3, z4, z5, Nat.reduceAdd] at hF hR hK ⊢
                          obtain ⟨r11, -⟩ := hR
                          generalize vs 11 = x11 at *
                          subst r11
                          have k0 := (hI.cell (lt_of_cell e0)).trans e0
                          go_simp
                          exact hK _ () _ hI (Below.refl _ _) rfl
                        · intro vs g w2 hI hF hR K hK
                          simp only [Facts, fill, Act.put, z1, z2, z3, z4, z5, Nat.reduceAdd] at hF hR hK ⊢
                          obtain ⟨r5, r12, -⟩ := hR
                          generalize vs 5 = x5, vs 12 = x12 at *
                          subst r5 r12
                          have hd := hne1
                          go_simp
                          exact hK _ () _ hI (Below.refl _ _) (congrArg Value.bool hne1)
                        · intro vs g w2 hI hF hR K hK
                          simp only [Facts, fill, Act.put, z1, z2, z3, z4, z5, Nat.reduceAdd] at hF hR hK ⊢
                          obtain ⟨r13, -⟩ := hR
                          generalize vs 13 = x13 at *
                          subst r13
                          go_simp
                          exact hK _ () _ hI (Below.refl _ _) rfl
                        · intro vs g w2 hI hF hR K hK
                          simp only [Facts, fill, Act.put, z1, z2, z3, z4, z5, Nat.reduceAdd] at hF hR hK ⊢
                          obtain ⟨r14, -⟩ := hR
                          generalize vs 14 = x14 at *
                          subst r14
                          go_simp
                          exact hK _ () _ hI (Below.refl _ _) rfl
                        · intro vs g w2 hI hF hR K hK
                          simp only [Facts, fill, Act.put, z1, z2, z3, z4, z5, Nat.reduceAdd] at hF hR hK ⊢
                          obtain ⟨r14, r15, -⟩ := hR
                          generalize vs 14 = x14, vs 15 = x15 at *
                          subst r14 r15
                          have k0 := (hI.cell (lt_of_cell k4)).trans k4
                          go_simp
                          exact hK _ () _ hI (Below.refl _ _) rfl
                        · intro vs g w2 hI hF hR K hK
                          simp only [Facts, fill, Act.put, z1, z2, z3, z4, z5, Nat.reduceAdd] at hF hR hK ⊢
                          obtain ⟨r14, -⟩ := hR
                          generalize vs 14 = x14 at *
                          subst r14
                          go_simp
                          exact hK _ () _ hI (Below.refl _ _) rfl
                        · intro vs g w2 hI hF hR K hK
                          simp only [Facts, fill, Act.put, z1, z2, z3, z4, z5, Nat.reduceAdd] at hF hR hK ⊢
                          obtain ⟨r14, r16, r17, -⟩ := hR
                          generalize vs 14 = x14, vs 16 = x16, vs 17 = x17 at *
                          subst r14 r16 r17
                          go_simp
                          exact hK _ () _ hI (Below.refl _ _) rfl
                        · intro vs g w2 hI hF hR K hK
                          simp only [Facts, fill, Act.put, z1, z2, z3, z4, z5, Nat.reduceAdd] at hF hR hK ⊢
                          obtain ⟨r14, r18, -⟩ := hR
                          generalize vs 14 = x14, vs 18 = x18 at *
                          subst r14 r18
                          go_simp
                          exact hK _ () _ hI (Below.refl _ _) rfl
                        · intro vs g w2 hI hF hR K hK
                          simp only [Facts, fill, Act.put, z1, z2, z3, z4, z5, Nat.reduceAdd] at hF hR hK ⊢
                          obtain ⟨r14, r19, -⟩ := hR
                          generalize vs 14 = x14, vs 19 = x19 at *
                          subst r14 r19
                          have k0 := (hI.cell (lt_of_cell c1)).trans c1
                          go_simp
                          exact hK _ () _ hI (Below.refl _ _) rfl
                        · intro vs g w2 hI hF hR K hK
                          simp only [Facts, fill, Act.put, z1, z2, z3, z4, z5, Nat.reduceAdd] at hF hR hK ⊢
                          obtain ⟨r14, -⟩ := hR
                          generalize vs 14 = x14 at *
                          subst r14
                          go_simp
                          exact hK _ () _ hI (Below.refl _ _) rfl
                        · intro vs g w2 hI hF hR K hK
                          simp only [Facts, fill, Act.put, z1, z2, z3, z4, z5, Nat.reduceAdd] at hF hR hK ⊢
                          obtain ⟨r14, r21, -⟩ := hR
                          generalize vs 14 = x14, vs 21 = x21 at *
                          subst r14 r21
                          go_simp
                          exact hK _ () _ hI (Below.refl _ _) rfl
                        · intro vs g w2 hI hF hR K hK
                          simp only [Facts, fill, Act.put, z1, z2, z3, z4, z5, Nat.reduceAdd] at hF hR hK ⊢
                          obtain ⟨r14, r22, -⟩ := hR
                          generalize vs 14 = x14, vs 22 = x22 at *
                          subst r14 r22
                          have k0 := (hI.cell (lt_of_cell k2)).trans k2
                          go_simp
                          exact hK _ () _ hI (Below.refl _ _) rfl
                        · intro vs g w2 hI hF hR K hK
                          simp only [Facts, fill, Act.put, z1, z2, z3, z4, z5, Nat.reduceAdd] at hF hR hK ⊢
                          obtain ⟨r14, -⟩ := hR
                          generalize vs 14 = x14 at *
                          subst r14
                          go_simp
                          exact hK _ () _ hI (Below.refl _ _) rfl
                        · intro vs g w2 hI hF hR K hK
                          simp only [Facts, fill, Act.put, z1, z2, z3, z4, z5, Nat.reduceAdd] at hF hR hK ⊢
                          obtain ⟨r14, r23, r24, -⟩ := hR
                          generalize vs 14 = x14, vs 23 = x23, vs 24 = x24 at *
                          subst r14 r23 r24
                          go_simp
                          exact hK _ () _ hI (Below.refl _ _) rfl
                        · intro vs g w2 hI hF hR K hK
                          simp only [Facts, fill, Act.put, z1, z2, z3, z4, z5, Nat.reduceAdd] at hF hR hK ⊢
                          obtain ⟨r14, r25, -⟩ := hR
                          generalize vs 14 = x14, vs 25 = x25 at *
                          subst r14 r25
                          go_simp
                          exact hK _ () _ hI (Below.refl _ _) rfl
                        · intro vs g w2 hI hF hR K hK
                          simp only [Facts, fill, Act.put, z1, z2, z3, z4, z5, Nat.reduceAdd] at hF hR hK ⊢
                          obtain ⟨r14, r26, -⟩ := hR
                          generalize vs 14 = x14, vs 26 = x26 at *
                          subst r14 r26
                          have k0 := (hI.cell (lt_of_cell e1)).trans e1
                          go_simp
                          exact hK _ () _ hI (Below.refl _ _) rfl
                        · intro vs g w2 hI hF hR K hK
                          simp only [Facts, fill, Act.put, z1, z2, z3, z4, z5, Nat.reduceAdd] at hF hR hK ⊢
                          obtain ⟨r14, r20, r27, -⟩ := hR
                          generalize vs 14 = x14, vs 20 = x20, vs 27 = x27 at *
                          subst r14 r20 r27
                          have hd := hne2
                          go_simp
                          exact hK _ () _ hI (Below.refl _ _) rfl
                        · intro vs g w2 hI hF hR K hK
                          simp only [Facts, fill, Act.put, z1, z2, z3, z4, z5, Nat.reduceAdd] at hF hR hK ⊢
                          obtain ⟨r14, r28, -⟩ := hR
                          generalize vs 14 = x14, vs 28 = x28 at *
                          subst r14 r28
                          go_simp
                          exact hK _ () _ hI (Below.refl _ _) rfl
                      case fin =>
                        intro vs w2 hI hR
                        have r29 := hR 29 (by decide)
                        simp only [fill, Act.put, z1, z2, z3, z4, z5] at r29 ⊢
                        clear hR
                        generalize vs 29 = x29 at *
                        subst r29
                        refine NoPanic.normal ?_
                        go_wp2
                        exact bodyPost_ret (v := .tuple #[.slice none 0 0, .int .i64 2]) (by simp [results, Tryd.results12, go_sem]) rfl (by have h9 := h0.trans ((hi.next hI).below.mono h0.size); rw [HX.out.1]; exact givesB_bad (by decide) (HX.out.2) h9)
                  · have hne1 : (da != db) = true := by rw [bne_iff_ne]; exact hdd
                    have HX := Lib.hid (show er = 2 ∧ bs = [] by
                      have h1 : er = 2 := by rw [← HE.out]; exact enc_kind HFE.out ⟨by simpa using HLEN.out, by rw [HNP.out, HPN.out], by rw [HNQ.out, HQN.out]⟩ HLA.out (hNO.out (fun h => hdd h.1))
                      exact ⟨h1, by rw [← HBB.out, if_neg (by omega)]⟩)
                    clear hdd
                    go_wp2
                    refine dir_plain (by kernel_rfl) 30 [[], [(80, 0)], [], [(81, 1), (82, 2)], [(83, 3)], [(84, 4)], [], [(86, 6)], [(87, 7)], [], [(88, 8), (89, 9)], [(90, 10)], [(91, 11)], [(85, 5), (92, 12)], [(93, 13)], [(94, 14)], [(94, 14), (95, 15)], [(94, 14)], [(94, 14), (96, 16), (97, 17)], [(94, 14), (98, 18)], [(94, 14), (99, 19)], [(94, 14)], [(94, 14), (101, 21)], [(94, 14), (102, 22)], [(94, 14)], [(94, 14), (103, 23), (104, 24)], [(94, 14), (105, 25)], [(94, 14), (106, 26)], [(94, 14), (100, 20), (107, 27)], [(94, 14), (108, 28)]] [(80, 0), (81, 1), (82, 2), (83, 3), (84, 4), (85, 5), (86, 6), (87, 7), (88, 8), (89, 9), (90, 10), (91, 11), (92, 12), (93, 13), (94, 14), (95, 15), (96, 16), (97, 17), (98, 18), (99, 19), (100, 20), (101, 21), (102, 22), (103, 23), (104, 24), (105, 25), (106, 26), (107, 27), (108, 28), (109, 29)] [
                        (fun v _ => v = .pointer (some ⟨B, 4, none⟩)),
                        (fun v _ => v = .slice (some ⟨b, o, none⟩) rn rc),
                        (fun v _ => v = .int .i64 k),
                        (fun v _ => v = .pointer (some ⟨b, o + k * 3, none⟩)),
                        (fun v _ => v = .pointer (some ⟨b, o + k * 3, none⟩)),
                        (fun v _ => v = .bool da),
                        (fun v _ => v = .pointer (some ⟨B, 0, none⟩)),
                        (fun v _ => v = .pointer (some ⟨B, 2, none⟩)),
                        (fun v _ => v = .slice (some ⟨b', o', none⟩) rn hc),
                        (fun v _ => v = .int .i64 k),
                        (fun v _ => v = .pointer (some ⟨b', o' + k * 3, none⟩)),
                        (fun v _ => v = .pointer (some ⟨b', o' + k * 3, none⟩)),
                        (fun v _ => v = .bool db),
                        (fun v _ => v = .bool true),
                        (fun v _ => v = .bool true),
                        (fun v _ => v = undef),
                        (fun v _ => v = undef),
                        (fun v _ => v = undef),
                        (fun v _ => v = undef),
                        (fun v _ => v = undef),
                        (fun v _ => v = undef),
                        (fun v _ => v = undef),
                        (fun v _ => v = undef),
                        (fun v _ => v = undef),
                        (fun v _ => v = undef),
                        (fun v _ => v = undef),
                        (fun v _ => v = undef),
                        (fun v _ => v = undef),
                        (fun v _ => v = undef),
                        (fun v _ => v = .bool true)
                      ] (by kernel_rfl) (by kernel_rfl) (by kernel_rfl) (by decide) ⟨dstab_eq, dstab_eq, dstab_eq, dstab_eq, dstab_eq, dstab_eq, dstab_eq, dstab_eq, dstab_eq, dstab_eq, dstab_eq, dstab_eq, dstab_eq, dstab_eq, dstab_eq, dstab_eq, dstab_eq, dstab_eq, dstab_eq, dstab_eq, dstab_eq, dstab_eq, dstab_eq, dstab_eq, dstab_eq, dstab_eq, dstab_eq, dstab_eq, dstab_eq, dstab_eq, trivial⟩ ?steps ?fin
                    case steps =>
                      refine ⟨?_, ?_, ?_, ?_, ?_, ?_, ?_, ?_, ?_, ?_, ?_, ?_, ?_, ?_, ?_, ?_, ?_, ?_, ?_, ?_, ?_, ?_, ?_, ?_, ?_, ?_, ?_, ?_, ?_, ?_, trivial⟩
                      · intro vs g w2 hI hF hR K hK
                        simp only [Facts, fill, Act.put, z1, z2, z3, z4, z5, Nat.reduceAdd] at hF hR hK ⊢
                        go_simp
                        exact hK _ () _ hI (Below.refl _ _) rfl
                      · intro vs g w2 hI hF hR K hK
                        simp only [Facts, fill, Act.put, z1, z2, z3, z4, z5, Nat.reduceAdd] at hF hR hK ⊢
                        obtain ⟨r0, -⟩ := hR
                        generalize vs 0 = x0 at *
                        subst r0
                        have k0 := (hI.cell (lt_of_cell k4)).trans k4
                        go_simp
                        exact hK _ () _ hI (Below.refl _ _) rfl
                      · intro vs g w2 hI hF hR K hK
                        simp only [Facts, fill, Act.put, z1, z2, z3, z4, z5, Nat.reduceAdd] at hF hR hK ⊢
                        go_simp
                        exact hK _ () _ hI (Below.refl _ _) rfl
                      · intro vs g w2 hI hF hR K hK
                        simp only [Facts, fill, Act.put, z1, z2, z3, z4, z5, Nat.reduceAdd] at hF hR hK ⊢
                        obtain ⟨r1, r2, -⟩ := hR
                        generalize vs 1 = x1, vs 2 = x2 at *
                        subst r1 r2
                        go_simp
                        exact hK _ () _ hI (Below.refl _ _) rfl
                      · intro vs g w2 hI hF hR K hK
                        simp only [Facts, fill, Act.put, z1, z2, z3, z4, z5, Nat.reduceAdd] at hF hR hK ⊢
                        obtain ⟨r3, -⟩ := hR
                        generalize vs 3 = x3 at *
                        subst r3
                        go_simp
                        exact hK _ () _ hI (Below.refl _ _) rfl
                      · intro vs g w2 hI hF hR K hK
                        simp only [Facts, fill, Act.put, z1, z2, z3, z4, z5, Nat.reduceAdd] at hF hR hK ⊢
                        obtain ⟨r4, -⟩ := hR
                        generalize vs 4 = x4 at *
                        subst r4
                        have k0 := (hI.cell (lt_of_cell c0)).trans c0
                        go_simp
                        exact hK _ () _ hI (Below.refl _ _) rfl
                      · intro vs g w2 hI hF hR K hK
                        simp only [Facts, fill, Act.put, z1, z2, z3, z4, z5, Nat.reduceAdd] at hF hR hK ⊢
                        go_simp
                        exact hK _ () _ hI (Below.refl _ _) rfl
                      · intro vs g w2 hI hF hR K hK
                        simp only [Facts, fill, Act.put, z1, z2, z3, z4, z5, Nat.reduceAdd] at hF hR hK ⊢
                        obtain ⟨r6, -⟩ := hR
                        generalize vs 6 = x6 at *
                        subst r6
                        go_simp
                        exact hK _ () _ hI (Below.refl _ _) rfl
                      · intro vs g w2 hI hF hR K hK
                        simp only [Facts, fill, Act.put, z1, z2, z3, z4, z5, Nat.reduceAdd] at hF hR hK ⊢
                        obtain ⟨r7, -⟩ := hR
                        generalize vs 7 = x7 at *
                        subst r7
                        have k0 := (hI.cell (lt_of_cell k2)).trans k2
                        go_simp
                        exact hK _ () _ hI (Below.refl _ _) rfl
                      · intro vs g w2 hI hF hR K hK
                        simp only [Facts, fill, Act.put, z1, z2, z3, z4, z5, Nat.reduceAdd] at hF hR hK ⊢
                        go_simp
                        exact hK _ () _ hI (Below.refl _ _) rfl
                      · intro vs g w2 hI hF hR K hK
                        simp only [Facts, fill, Act.put, z1, z2, z3, z4, z5, Nat.reduceAdd] at hF hR hK ⊢
                        obtain ⟨r8, r9, -⟩ := hR
                        generalize vs 8 = x8, vs 9 = x9 at *
                        subst r8 r9
                        go_simp
                        exact hK _ () _ hI (Below.refl _ _) rfl
                      · intro vs g w2 hI hF hR K hK
                        simp only [Facts, fill, Act.put, z1, z2, z3, z4, z5, Nat.reduceAdd] at hF hR hK ⊢
                        obtain ⟨r10, -⟩ := hR
                        generalize vs 10 = x10 at *
                        subst r10
                        go_simp
                        exact hK _ () _ hI (Below.refl _ _) rfl
                      · intro vs g w2 hI hF hR K hK
                        simp only [Facts, fill, Act.put, z1, z2, z3, z4, z5, Nat.reduceAdd] at hF hR hK ⊢
                        obtain ⟨r11, -⟩ := hR
                        generalize vs 11 = x11 at *
                        subst r11
                        have k0 := (hI.cell (lt_of_cell e0)).trans e0
                        go_simp
                        exact hK _ () _ hI (Below.refl _ _) rfl
                      · intro vs g w2 hI hF hR K hK
                        simp only [Facts, fill, Act.put, z1, z2, z3, z4, z5, Nat.reduceAdd] at hF hR hK ⊢
                        obtain ⟨r5, r12, -⟩ := hR
                        generalize vs 5 = x5, vs 12 = x12 at *
                        subst r5 r12
                        have hd := hne1
                        go_simp
                        exact hK _ () _ hI (Below.refl _ _) (congrArg Value.bool hne1)
                      · intro vs g w2 hI hF hR K hK
                        simp only [Facts, fill, Act.put, z1, z2, z3, z4, z5, Nat.reduceAdd] at hF hR hK ⊢
                        obtain ⟨r13, -⟩ := hR
                        generalize vs 13 = x13 at *
                        subst r13
                        go_simp
                        exact hK _ () _ hI (Below.refl _ _) rfl
                      · intro vs g w2 hI hF hR K hK
                        simp only [Facts, fill, Act.put, z1, z2, z3, z4, z5, Nat.reduceAdd] at hF hR hK ⊢
                        obtain ⟨r14, -⟩ := hR
                        generalize vs 14 = x14 at *
                        subst r14
                        go_simp
                        exact hK _ () _ hI (Below.refl _ _) rfl
                      · intro vs g w2 hI hF hR K hK
                        simp only [Facts, fill, Act.put, z1, z2, z3, z4, z5, Nat.reduceAdd] at hF hR hK ⊢
                        obtain ⟨r14, r15, -⟩ := hR
                        generalize vs 14 = x14, vs 15 = x15 at *
                        subst r14 r15
                        go_simp
                        exact hK _ () _ hI (Below.refl _ _) rfl
                      · intro vs g w2 hI hF hR K hK
                        simp only [Facts, fill, Act.put, z1, z2, z3, z4, z5, Nat.reduceAdd] at hF hR hK ⊢
                        obtain ⟨r14, -⟩ := hR
                        generalize vs 14 = x14 at *
                        subst r14
                        go_simp
                        exact hK _ () _ hI (Below.refl _ _) rfl
                      · intro vs g w2 hI hF hR K hK
                        simp only [Facts, fill, Act.put, z1, z2, z3, z4, z5, Nat.reduceAdd] at hF hR hK ⊢
                        obtain ⟨r14, r16, r17, -⟩ := hR
                        generalize vs 14 = x14, vs 16 = x16, vs 17 = x17 at *
                        subst r14 r16 r17
                        go_simp
                        exact hK _ () _ hI (Below.refl _ _) rfl
                      · intro vs g w2 hI hF hR K hK
                        simp only [Facts, fill, Act.put, z1, z2, z3, z4, z5, Nat.reduceAdd] at hF hR hK ⊢
                        obtain ⟨r14, r18, -⟩ := hR
                        generalize vs 14 = x14, vs 18 = x18 at *
                        subst r14 r18
                        go_simp
                        exact hK _ () _ hI (Below.refl _ _) rfl
                      · intro vs g w2 hI hF hR K hK
                        simp only [Facts, fill, Act.put, z1, z2, z3, z4, z5, Nat.reduceAdd] at hF hR hK ⊢
                        obtain ⟨r14, r19, -⟩ := hR
                        generalize vs 14 = x14, vs 19 = x19 at *
                        subst r14 r19
                        go_simp
                        exact hK _ () _ hI (Below.refl _ _) rfl
                      · intro vs g w2 hI hF hR K hK
                        simp only [Facts, fill, Act.put, z1, z2, z3, z4, z5, Nat.reduceAdd] at hF hR hK ⊢
                        obtain ⟨r14, -⟩ := hR
                        generalize vs 14 = x14 at *
                        subst r14
                        go_simp
                        exact hK _ () _ hI (Below.refl _ _) rfl
                      · intro vs g w2 hI hF hR K hK
                        simp only [Facts, fill, Act.put, z1, z2, z3, z4, z5, Nat.reduceAdd] at hF hR hK ⊢
                        obtain ⟨r14, r21, -⟩ := hR
                        generalize vs 14 = x14, vs 21 = x21 at *
                        subst r14 r21
                        go_simp
                        exact hK _ () _ hI (Below.refl _ _) rfl
                      · intro vs g w2 hI hF hR K hK
                        simp only [Facts, fill, Act.put, z1, z2, z3, z4, z5, Nat.reduceAdd] at hF hR hK ⊢
                        obtain ⟨r14, r22, -⟩ := hR
                        generalize vs 14 = x14, vs 22 = x22 at *
                        subst r14 r22
                        go_simp
                        exact hK _ () _ hI (Below.refl _ _) rfl
                      · intro vs g w2 hI hF hR K hK
                        simp only [Facts, fill, Act.put, z1, z2, z3, z4, z5, Nat.reduceAdd] at hF hR hK ⊢
                        obtain ⟨r14, -⟩ := hR
                        generalize vs 14 = x14 at *
                        subst r14
                        go_simp
                        exact hK _ () _ hI (Below.refl _ _) rfl
                      · intro vs g w2 hI hF hR K hK
                        simp only [Facts, fill, Act.put, z1, z2, z3, z4, z5, Nat.reduceAdd] at hF hR hK ⊢
                        obtain ⟨r14, r23, r24, -⟩ := hR
                        generalize vs 14 = x14, vs 23 = x23, vs 24 = x24 at *
                        subst r14 r23 r24
                        go_simp
                        exact hK _ () _ hI (Below.refl _ _) rfl
                      · intro vs g w2 hI hF hR K hK
                        simp only [Facts, fill, Act.put, z1, z2, z3, z4, z5, Nat.reduceAdd] at hF hR hK ⊢
                        obtain ⟨r14, r25, -⟩ := hR
                        generalize vs 14 = x14, vs 25 = x25 at *
                        subst r14 r25
                        go_simp
                        exact hK _ () _ hI (Below.refl _ _) rfl
                      · intro vs g w2 hI hF hR K hK
                        simp only [Facts, fill, Act.put, z1, z2, z3, z4, z5, Nat.reduceAdd] at hF hR hK ⊢
                        obtain ⟨r14, r26, -⟩ := hR
                        generalize vs 14 = x14, vs 26 = x26 at *
                        subst r14 r26
                        go_simp
                        exact hK _ () _ hI (Below.refl _ _) rfl
                      · intro vs g w2 hI hF hR K hK
                        simp only [Facts, fill, Act.put, z1, z2, z3, z4, z5, Nat.reduceAdd] at hF hR hK ⊢
                        obtain ⟨r14, r20, r27, -⟩ := hR
                        generalize vs 14 = x14, vs 20 = x20, vs 27 = x27 at *
                        subst r14 r20 r27
                        go_simp
                        exact hK _ () _ hI (Below.refl _ _) rfl
                      · intro vs g w2 hI hF hR K hK
                        simp only [Facts, fill, Act.put, z1, z2, z3, z4, z5, Nat.reduceAdd] at hF hR hK ⊢
                        obtain ⟨r14, r28, -⟩ := hR
                        generalize vs 14 = x14, vs 28 = x28 at *
                        subst r14 r28
                        go_simp
                        exact hK _ () _ hI (Below.refl _ _) rfl
                    case fin =>
                      intro vs w2 hI hR
                      have r29 := hR 29 (by decide)
                      simp only [fill, Act.put, z1, z2, z3, z4, z5] at r29 ⊢
                      clear hR
                      generalize vs 29 = x29 at *
                      subst r29
                      refine NoPanic.normal ?_
                      go_wp2
                      exact bodyPost_ret (v := .tuple #[.slice none 0 0, .int .i64 2]) (by simp [results, Tryd.results12, go_sem]) rfl (by have h9 := h0.trans ((hi.next hI).below.mono h0.size); rw [HX.out.1]; exact givesB_bad (by decide) (HX.out.2) h9)
                · have hke : k = rs.length := by omega
                  subst hke
                  have HKA := Lib.hid ((kinds_to HLEN.out).2 HTO.out)
                  have hrnk : ¬ ((rs.length : Int) < rn) := by have := HRN.out; omega
                  have hz := rgsB_le HL64.out rs.length (Nat.le_refl _)
                  rw [List.take_length] at hi hz
                  obtain ⟨ys, hys⟩ : ∃ ys, ys = fs ++ rgsB (rs.map rgD) := ⟨_, rfl⟩
                  rw [← hys] at hi
                  have hyl : ys.length ≤ 68 + 65536 := by rw [hys, List.length_append]; omega
                  have HYS := Lib.hid hys
                  clear hys hz hgo hk
                  go_wp2
                  go_loopw [4, 11] (fun b j wr => ERel3 W ys ps b j wr) (fun _ j _ => pn - (intOf j).toNat)
                  case atStart => exact ⟨0, rfl, Nat.zero_le _, by rw [List.take_zero, List.flatMap_nil, List.append_nil]; exact hi⟩
                  case round =>
                    clear hi k0 k1 k2 k3 k4 k5 k6
                    obtain ⟨j, rfl, hj, hij⟩ := hrel
                    obtain ⟨k0, k1, k2, k3, k4, k5, k6⟩ := HBX.out.next hij.below hBW
                    by_cases hjm : j < ps.length
                    · obtain ⟨pb, po, rfl, _, p0, p1⟩ := (HRow.out.2.2.1.next hij.below).p2 hjm
                      have HFL := Lib.hid (flat_snoc ptB hjm)
                      have HPS := Lib.hid (hpS _ (List.getElem_mem hjm))
                      have hfl2 := flat_take_le ptB_len ps j
                      generalize ps[j] = P at p0 p1 HFL HPS
                      have hjr : (j : Int) < pn := by have := HPN.out; omega
                      have hlen : (ys ++ (ps.take j).flatMap ptB).length ≤ 800000 := by rw [List.length_append]; have := HPN.out; have := HCN.out; omega
                      have HJ := Lib.hid hij
                      have hbs := hij.below.size
                      clear hfl2
                      go_wp2_with (fail)
                      refine (ref18Point_any W.heap.size _ _ P wr HJ.out.row hlen hbs HPS.out).mono ?_
                      rintro e w5 ⟨b5, rfl, hg5⟩
                      have hi6 := HJ.out.grow hg5
                      go_wp2
                      go_roundw
                      case rel => exact ⟨j + 1, by go_num, hjm, by rw [HFL.out, ← List.append_assoc]; exact hi6⟩
                      case measure => have := HPN.out; simp [intOf]; omega
                    · have hjr : ¬ ((j : Int) < pn) := by have := HPN.out; omega
                      have HFA := Lib.hid (show ps.take j = ps from List.take_of_length_le (by omega))
                      rw [HFA.out] at hij
                      obtain ⟨zs, hzs⟩ : ∃ zs, zs = ys ++ ps.flatMap ptB := ⟨_, rfl⟩
                      rw [← hzs] at hij
                      have hzl : zs.length ≤ 68 + 65536 + 1040 := by rw [hzs, List.length_append, flatK_len ptB_len]; have := HPN.out; have := HCN.out; omega
                      have HZS := Lib.hid hzs
                      clear hzs
                      go_wp2
                      go_loopw [4, 12] (fun b j wr => ERel5 W zs qs b j wr) (fun _ j _ => qn - (intOf j).toNat)
                      case atStart => exact ⟨0, rfl, Nat.zero_le _, by rw [List.take_zero, List.flatMap_nil, List.append_nil]; exact hij⟩
                      case round =>
                        clear hij k0 k1 k2 k3 k4 k5 k6 hjr hj
                        obtain ⟨j, rfl, hj, hij⟩ := hrel
                        obtain ⟨k0, k1, k2, k3, k4, k5, k6⟩ := HBX.out.next hij.below hBW
                        by_cases hjm : j < qs.length
                        · obtain ⟨pb, po, rfl, hTq, p0, p1, p2⟩ := HRow.out.2.2.2.q3 hjm
                          have HFL := Lib.hid (flat_snoc qrB hjm)
                          have HPS := Lib.hid (hqO _ (List.getElem_mem hjm))
                          have hfl2 := flat_take_le qrB_len qs j
                          have q0 := (hij.below.cell (lt_of_cell p0)).trans p0
                          have q1 := (hij.below.cell (lt_of_cell p1)).trans p1
                          have q2 := (hij.below.cell (lt_of_cell p2)).trans p2
                          generalize qs[j] = P at q0 q1 q2 HFL HPS
                          have hjr : (j : Int) < qn := by have := HQN.out; omega
                          have hlen : (zs ++ (qs.take j).flatMap qrB).length ≤ 300000 := by rw [List.length_append]; have := HQN.out; have := HCN.out; omega
                          obtain ⟨Y, hY⟩ : ∃ Y, Y = zs ++ (qs.take j).flatMap qrB := ⟨_, rfl⟩
                          rw [← hY] at hij hlen
                          have HY := Lib.hid hY
                          have hlow : ∀ g, u4.ownBlock = some g → W.heap.size ≤ g := fun g hg => (World.ownsRow.lt hij.row g hg).1
                          have hntB : ¬ u4.ownBlock = some B := fun e => by have := hlow B e; omega
                          have hntq : ¬ u4.ownBlock = some pb := fun e => by have := hlow pb e; omega
                          have hbs := hij.below.size
                          clear p0 p1 p2 hfl2 hY hlow
                          go_wp2
                          refine dirP_plain (by kernel_rfl) (fun b => u4.ownBlock = some b) 7 [] 14 [[], [], [(150, 1)], [], [(151, 2), (152, 3)], [(153, 4)], [(154, 5)], [(149, 0), (155, 6)], [], [(157, 8)], [], [(158, 9), (159, 10)], [(160, 11)], [(161, 12)], [(156, 7), (162, 13)], [(163, 14)]] [(149, 0), (150, 1), (151, 2), (152, 3), (153, 4), (154, 5), (155, 6), (156, 7), (157, 8), (158, 9), (159, 10), (160, 11), (161, 12), (162, 13)] [
                              (fun z_ => z_ = u4),
                              (fun z_ => z_ = .pointer (some ⟨B, 6, none⟩)),
                              (fun z_ => z_ = .slice (some ⟨pb, po, none⟩) qn qc),
                              (fun z_ => z_ = .int .i64 j),
                              (fun z_ => z_ = .pointer (some ⟨pb, po + j * 3, none⟩)),
                              (fun z_ => z_ = .pointer (some ⟨pb, po + j * 3, none⟩)),
                              (fun z_ => z_ = .agg #[.int .i64 P.p.x, .int .i64 P.p.y]),
                              (fun _ => True),
                              (fun z_ => z_ = .pointer (some ⟨B, 6, none⟩)),
                              (fun z_ => z_ = .slice (some ⟨pb, po, none⟩) qn qc),
                              (fun z_ => z_ = .int .i64 j),
                              (fun z_ => z_ = .pointer (some ⟨pb, po + j * 3, none⟩)),
                              (fun z_ => z_ = .pointer (some ⟨pb, po + j * 3 + 2, none⟩)),
                              (fun z_ => z_ = .int .u64 P.id)
                            ] [(fun _ _ => True), (fun _ _ => True), (fun _ _ => True), (fun _ _ => True), (fun _ _ => True), (fun _ _ => True), (fun _ _ => True), (fun _ _ => True), (fun _ _ => True), (fun _ _ => True), (fun _ _ => True), (fun _ _ => True), (fun _ _ => True), (fun _ _ => True)] (fun v' w' => Grew wr W.heap.size u4 (Y ++ ptB P.p) v' w')
                            (by kernel_rfl) (by kernel_rfl) (by kernel_rfl) (by decide) ⟨fun _ _ _ h _ => h, fun _ _ _ h _ => h, fun _ _ _ h _ => h, fun _ _ _ h _ => h, fun _ _ _ h _ => h, fun _ _ _ h _ => h, fun _ _ _ h _ => h, fun _ _ _ h _ => h, fun _ _ _ h _ => h, fun _ _ _ h _ => h, fun _ _ _ h _ => h, fun _ _ _ h _ => h, fun _ _ _ h _ => h, fun _ _ _ h _ => h, trivial⟩ (Grew.dst) ?steps (by decide) ?fin
                          case steps =>
                            refine ⟨?_, ?_, ?_, ?_, ?_, ?_, ?_, ?_, ?_, ?_, ?_, ?_, ?_, ?_, trivial⟩
                            · intro vs g w2 hI hF hR K hK
                              simp only [Facts, fill, Act.put, z1, z2, z3, z4, z5, Nat.reduceAdd] at hF hR hK ⊢
                              go_simp
                              exact hK _ _ _ (hI.step (by decide) (Below.refl _ _)) ⟨rfl, fun _ => Below.refl _ _⟩ ⟨updG_same _ _, rfl, fun _ => trivial, fun e => absurd e (by decide)⟩
                            · intro vs g w2 hI hF hR K hK
                              simp only [Facts, fill, Act.put, z1, z2, z3, z4, z5, Nat.reduceAdd] at hF hR hK ⊢
                              go_simp
                              exact hK _ _ _ (hI.step (by decide) (Below.refl _ _)) ⟨rfl, fun _ => Below.refl _ _⟩ ⟨updG_same _ _, rfl, fun _ => trivial, fun e => absurd e (by decide)⟩
                            · intro vs g w2 hI hF hR K hK
                              simp only [Facts, fill, Act.put, z1, z2, z3, z4, z5, Nat.reduceAdd] at hF hR hK ⊢
                              obtain ⟨q1, -⟩ := hR
                              have r1 : .pointer (some ⟨B, 6, none⟩) = vs 1 := Eq.symm q1.val
                              generalize vs 1 = x1 at *
                              subst r1
                              have k0 := (hI.moved.cell (lt_of_cell k6) hntB).trans k6
                              go_simp
                              exact hK _ _ _ (hI.step (by decide) (Below.refl _ _)) ⟨rfl, fun _ => Below.refl _ _⟩ ⟨updG_same _ _, rfl, fun _ => trivial, fun e => absurd e (by decide)⟩
                            · intro vs g w2 hI hF hR K hK
                              simp only [Facts, fill, Act.put, z1, z2, z3, z4, z5, Nat.reduceAdd] at hF hR hK ⊢
                              go_simp
                              exact hK _ _ _ (hI.step (by decide) (Below.refl _ _)) ⟨rfl, fun _ => Below.refl _ _⟩ ⟨updG_same _ _, rfl, fun _ => trivial, fun e => absurd e (by decide)⟩
                            · intro vs g w2 hI hF hR K hK
                              simp only [Facts, fill, Act.put, z1, z2, z3, z4, z5, Nat.reduceAdd] at hF hR hK ⊢
                              obtain ⟨q2, q3, -⟩ := hR
                              have r2 : .slice (some ⟨pb, po, none⟩) qn qc = vs 2 := Eq.symm q2.val
                              have r3 : .int .i64 j = vs 3 := Eq.symm q3.val
                              generalize vs 2 = x2, vs 3 = x3 at *
                              subst r2 r3
                              go_simp
                              exact hK _ _ _ (hI.step (by decide) (Below.refl _ _)) ⟨rfl, fun _ => Below.refl _ _⟩ ⟨updG_same _ _, rfl, fun _ => trivial, fun e => absurd e (by decide)⟩
                            · intro vs g w2 hI hF hR K hK
                              simp only [Facts, fill, Act.put, z1, z2, z3, z4, z5, Nat.reduceAdd] at hF hR hK ⊢
                              obtain ⟨q4, -⟩ := hR
                              have r4 : .pointer (some ⟨pb, po + j * 3, none⟩) = vs 4 := Eq.symm q4.val
                              generalize vs 4 = x4 at *
                              subst r4
                              go_simp
                              exact hK _ _ _ (hI.step (by decide) (Below.refl _ _)) ⟨rfl, fun _ => Below.refl _ _⟩ ⟨updG_same _ _, rfl, fun _ => trivial, fun e => absurd e (by decide)⟩
                            · intro vs g w2 hI hF hR K hK
                              simp only [Facts, fill, Act.put, z1, z2, z3, z4, z5, Nat.reduceAdd] at hF hR hK ⊢
                              obtain ⟨q5, -⟩ := hR
                              have r5 : .pointer (some ⟨pb, po + j * 3, none⟩) = vs 5 := Eq.symm q5.val
                              generalize vs 5 = x5 at *
                              subst r5
                              have k0 := (hI.moved.cell (lt_of_cell q0) hntq).trans q0
                              have k1 := (hI.moved.cell (lt_of_cell q1) hntq).trans q1
                              go_simp
                              exact hK _ _ _ (hI.step (by decide) (Below.refl _ _)) ⟨rfl, fun _ => Below.refl _ _⟩ ⟨updG_same _ _, rfl, fun _ => trivial, fun e => absurd e (by decide)⟩
                            · intro vs g w2 hI hF hR K hK
                              simp only [Facts, fill, Act.put, z1, z2, z3, z4, z5, Nat.reduceAdd] at hF hR hK ⊢
                              obtain ⟨q0, q6, -⟩ := hR
                              have r0 : u4 = vs 0 := Eq.symm q0.val
                              have r6 : .agg #[.int .i64 P.p.x, .int .i64 P.p.y] = vs 6 := Eq.symm q6.val
                              generalize vs 0 = x0, vs 6 = x6 at *
                              subst r0 r6
                              have hB := hI.below hF
                              go_simp
                              refine (ref18Point_any W.heap.size _ Y P.p w2 (hij.row.nextB hB) (by omega) (Nat.le_trans hbs hB.size) HPS.out.1).mono ?_
                              rintro e w3 ⟨v3, rfl, hg3⟩
                              have hg := Grew.ahead hB hg3
                              exact hK _ _ _ (hI.end_ (fun i hi => by cases hi) hg.moved) ⟨rfl, fun e => absurd rfl e⟩ ⟨updG_same _ _, trivial, fun e => (by rw [updG_same] at e; cases e), fun _ => hg⟩
                            · intro vs g w2 hI hF hR K hK
                              simp only [Facts, fill, Act.put, z1, z2, z3, z4, z5, Nat.reduceAdd] at hF hR hK ⊢
                              go_simp
                              exact hK _ _ _ (hI.step (by decide) (Below.refl _ _)) ⟨rfl, fun _ => Below.refl _ _⟩ ⟨updG_same _ _, rfl, fun _ => trivial, fun e => absurd e (by decide)⟩
                            · intro vs g w2 hI hF hR K hK
                              simp only [Facts, fill, Act.put, z1, z2, z3, z4, z5, Nat.reduceAdd] at hF hR hK ⊢
                              obtain ⟨q8, -⟩ := hR
                              have r8 : .pointer (some ⟨B, 6, none⟩) = vs 8 := Eq.symm q8.val
                              generalize vs 8 = x8 at *
                              subst r8
                              have k0 := (hI.moved.cell (lt_of_cell k6) hntB).trans k6
                              go_simp
                              exact hK _ _ _ (hI.step (by decide) (Below.refl _ _)) ⟨rfl, fun _ => Below.refl _ _⟩ ⟨updG_same _ _, rfl, fun _ => trivial, fun e => absurd e (by decide)⟩
                            · intro vs g w2 hI hF hR K hK
                              simp only [Facts, fill, Act.put, z1, z2, z3, z4, z5, Nat.reduceAdd] at hF hR hK ⊢
                              go_simp
                              exact hK _ _ _ (hI.step (by decide) (Below.refl _ _)) ⟨rfl, fun _ => Below.refl _ _⟩ ⟨updG_same _ _, rfl, fun _ => trivial, fun e => absurd e (by decide)⟩
                            · intro vs g w2 hI hF hR K hK
                              simp only [Facts, fill, Act.put, z1, z2, z3, z4, z5, Nat.reduceAdd] at hF hR hK ⊢
                              obtain ⟨q9, q10, -⟩ := hR
                              have r9 : .slice (some ⟨pb, po, none⟩) qn qc = vs 9 := Eq.symm q9.val
                              have r10 : .int .i64 j = vs 10 := Eq.symm q10.val
                              generalize vs 9 = x9, vs 10 = x10 at *
                              subst r9 r10
                              go_simp
                              exact hK _ _ _ (hI.step (by decide) (Below.refl _ _)) ⟨rfl, fun _ => Below.refl _ _⟩ ⟨updG_same _ _, rfl, fun _ => trivial, fun e => absurd e (by decide)⟩
                            · intro vs g w2 hI hF hR K hK
                              simp only [Facts, fill, Act.put, z1, z2, z3, z4, z5, Nat.reduceAdd] at hF hR hK ⊢
                              obtain ⟨q11, -⟩ := hR
                              have r11 : .pointer (some ⟨pb, po + j * 3, none⟩) = vs 11 := Eq.symm q11.val
                              generalize vs 11 = x11 at *
                              subst r11
                              go_simp
                              exact hK _ _ _ (hI.step (by decide) (Below.refl _ _)) ⟨rfl, fun _ => Below.refl _ _⟩ ⟨updG_same _ _, rfl, fun _ => trivial, fun e => absurd e (by decide)⟩
                            · intro vs g w2 hI hF hR K hK
                              simp only [Facts, fill, Act.put, z1, z2, z3, z4, z5, Nat.reduceAdd] at hF hR hK ⊢
                              obtain ⟨q12, -⟩ := hR
                              have r12 : .pointer (some ⟨pb, po + j * 3 + 2, none⟩) = vs 12 := Eq.symm q12.val
                              generalize vs 12 = x12 at *
                              subst r12
                              have k0 := (hI.moved.cell (lt_of_cell q2) hntq).trans q2
                              go_simp
                              exact hK _ _ _ (hI.step (by decide) (Below.refl _ _)) ⟨rfl, fun _ => Below.refl _ _⟩ ⟨updG_same _ _, rfl, fun _ => trivial, fun e => absurd e (by decide)⟩
                          case fin =>
                            intro vs w2 hm hpo hR
                            have r13 : .int .u64 P.id = vs 13 := Eq.symm (hR 13 (by decide))
                            simp only [fill, Act.put, z1, z2, z3, z4, z5] at ⊢
                            clear hR
                            generalize vs 13 = x13 at *
                            generalize vs 7 = x7 at *
                            subst r13
                            have hlen2 : (Y ++ ptB P.p).length ≤ 900000 := by rw [List.length_append, ptB_len]; omega
                            refine wpOps_step rfl rfl ?_
                            go_simp
                            refine (ref18Word_any W.heap.size _ (Y ++ ptB P.p) P.id w2 hpo.row hlen2 (Nat.le_trans hbs hpo.moved.size) HPS.out.2).mono ?_
                            rintro e w3 ⟨v3, rfl, hg3⟩
                            refine wpOps_step rfl rfl ?_
                            go_simp
                            refine NoPanic.normal ?_
                            have hi6 := hij.grow (hpo.trans hg3)
                            go_wp2
                            go_roundw
                            case rel => exact ⟨j + 1, by go_num, hjm, by rw [HFL.out, ← List.append_assoc, ← HY.out, show qrB P = ptB P.p ++ digs 8 P.id from rfl, ← List.append_assoc]; exact hi6⟩
                            case measure => have := HQN.out; simp [intOf]; omega
                        · have hjr : ¬ ((j : Int) < qn) := by have := HQN.out; omega
                          have HFA := Lib.hid (show qs.take j = qs from List.take_of_length_le (by omega))
                          rw [HFA.out] at hij
                          have HX := Lib.hid (show er = 0 by rw [← HE.out]; exact enc_ok HFE.out ⟨by simpa using HLEN.out, by rw [HNP.out, HPN.out], by rw [HNQ.out, HQN.out]⟩ HLA.out HKA.out)
                          have HXB := Lib.hid (show bs = zs ++ qs.flatMap qrB by rw [← HBB.out, if_pos HX.out, HZS.out, HYS.out, HFS.out]; unfold encB; simp only [List.append_assoc])
                          rw [← HXB.out] at hij
                          go_wp2
                          exact bodyPost_ret (v := .tuple #[u4, .int .i64 0]) (by simp [results, Tryd.results12, go_sem]) rfl (by rw [HX.out]; exact EncI.gives h0 hij rfl)
        · have HX := Lib.hid (show er = 8 ∧ bs = [] by
            have h1 : er = 8 := by rw [← HE.out]; exact enc_cnt HFE.out (fun h => hc3 (by have h2 := h.2.2; rw [HNQ.out] at h2; rw [HQN.out]; exact h2))
            exact ⟨h1, by rw [← HBB.out, if_neg (by omega)]⟩)
          have d1 : ((rn : Int) != hn) = false := by rw [bne_eq_false_iff_eq, hc1]
          have d2 : ((pn : Int) != np) = false := by rw [bne_eq_false_iff_eq]; exact hc2
          have d3 : ((qn : Int) != nq) = true := by rw [bne_iff_ne]; exact hc3
          clear hc1 hc2 hc3
          go_wp2
          exact bodyPost_ret (v := .tuple #[.slice none 0 0, .int .i64 8]) (by simp [results, Tryd.results12, go_sem]) rfl (by have h9 := h0.trans (hi2.below.mono h0.size); rw [HX.out.1]; exact givesB_bad (by decide) (HX.out.2) h9)
      · have HX := Lib.hid (show er = 8 ∧ bs = [] by
          have h1 : er = 8 := by rw [← HE.out]; exact enc_cnt HFE.out (fun h => hc2 (by have h2 := h.2.1; rw [HNP.out] at h2; rw [HPN.out]; exact h2))
          exact ⟨h1, by rw [← HBB.out, if_neg (by omega)]⟩)
        have d1 : ((rn : Int) != hn) = false := by rw [bne_eq_false_iff_eq, hc1]
        have d2 : ((pn : Int) != np) = true := by rw [bne_iff_ne]; exact hc2
        clear hc1 hc2
        go_wp2
        exact bodyPost_ret (v := .tuple #[.slice none 0 0, .int .i64 8]) (by simp [results, Tryd.results12, go_sem]) rfl (by have h9 := h0.trans (hi2.below.mono h0.size); rw [HX.out.1]; exact givesB_bad (by decide) (HX.out.2) h9)
    · have HX := Lib.hid (show er = 8 ∧ bs = [] by
        have h1 : er = 8 := by rw [← HE.out]; exact enc_cnt HFE.out (fun h => hc1 (by have h2 := h.1; simp only [List.length_map] at h2; rw [HRN.out, HHN.out]; exact h2))
        exact ⟨h1, by rw [← HBB.out, if_neg (by omega)]⟩)
      have d1 : ((rn : Int) != hn) = true := by rw [bne_iff_ne]; omega
      clear hc1
      go_wp2
      exact bodyPost_ret (v := .tuple #[.slice none 0 0, .int .i64 8]) (by simp [results, Tryd.results12, go_sem]) rfl (by have h9 := h0.trans (hi2.below.mono h0.size); rw [HX.out.1]; exact givesB_bad (by decide) (HX.out.2) h9)
  · have HX := Lib.hid (show er = fe ∧ bs = [] by
      have h1 : er = fe := by rw [← HE.out, ← HFE.out]; exact enc_fmt (by rw [HFE.out]; exact hf)
      exact ⟨h1, by rw [← HBB.out, if_neg (by omega)]⟩)
    have d1 : (fe != 0) = true := by rw [bne_iff_ne]; exact hf
    have HF := Lib.hid hf
    clear hf
    go_wp2
    exact bodyPost_ret (v := .tuple #[.slice none 0 0, .int .i64 fe]) (by simp [results, Tryd.results12, go_sem]) rfl (by rw [HX.out.1]; exact givesB_bad HF.out HX.out.2 (h0.trans (hb1.mono h0.size)))
end Go.Proofs.YtcfdpimpleniaaaDoor
