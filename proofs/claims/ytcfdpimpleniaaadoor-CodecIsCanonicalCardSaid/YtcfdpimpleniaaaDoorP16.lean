/-
  Packed texts: Law18e, Law18f, Law18g.
-/
import Derived.Test.YtcfdpimpleniaaaDoorP15
namespace Go.Proofs.YtcfdpimpleniaaaDoor
open Go.RowKit
set_option maxRecDepth 100000
set_option linter.unusedVariables false
set_option linter.unusedSimpArgs false

theorem decD_bd {bs : List Int} {er : Int} {D : Rqd} (hU : UB bs) (he : classH bs = er) (hD : (if er = 0 then decR bs else ⟨⟨0, 0, [], 0⟩, [], [], []⟩) = D) :
    D.h.ks.length ≤ 64 ∧ D.rs.length = D.h.ks.length ∧ D.ps.length ≤ 65 ∧ D.qs.length ≤ 4096 ∧ ∀ r ∈ D.rs, r.2.length ≤ 64 := by
  by_cases h : er = 0
  · rw [if_pos h] at hD
    obtain ⟨_, _, hk⟩ := enc_dec hU (he.trans h)
    rw [hD] at hk
    have hcn := cnt_nn hk
    have h64 : D.h.ks.length ≤ 64 := by
      by_cases h4 : 4 ≤ D.h.op
      · exact (hk.len h4).2
      · rw [hk.len0 (by omega)]; simp
    have hh : (parseH bs).h = D.h := by rw [← hD]; rfl
    have hrs : D.rs = regsAt bs D.h.ks (parseH bs).n := by rw [← hD]; rfl
    have hps : D.ps.length = (cntP D.h).toNat := by rw [← hD]; exact listAt_len _ _ _ _
    have hqs : D.qs.length = (cntQ D.h).toNat := by rw [← hD]; exact listAt_len _ _ _ _
    refine ⟨h64, by rw [hrs, regsAt_len], by omega, by omega, fun r hr => ?_⟩
    have h1 := lens_each (rs := D.rs) (ks := D.h.ks) (by rw [hrs]; exact regsAt_kinds _ _ _) (by rw [hrs]; exact regsAt_lens _ _ _) r hr
    have h2 := sizeF_bd r.1.2
    omega
  · rw [if_neg h] at hD
    subst hD
    exact ⟨by simp, rfl, by simp, by simp, fun r hr => by cases hr⟩
theorem map_at {α β : Type} {f : α → β} {L M : List α} {N : List β} (h : L.map f = N) (h' : M.map f = N) (k : Nat) (h1 : k < L.length) (h2 : k < M.length) : f L[k] = f M[k] := by
  have e1 : (L.map f)[k]? = some (f L[k]) := by simp [h1]
  have e2 : (M.map f)[k]? = some (f M[k]) := by simp [h2]
  rw [h] at e1; rw [h'] at e2
  rw [e1] at e2; injection e2
theorem noPts {hrs : List Rg} (h : rgP hrs = false) (k : Nat) (hk : k < hrs.length) : hrs[k].l.length = 0 := by
  unfold rgP at h
  have := List.any_eq_false.1 h _ (List.getElem_mem hk)
  simpa using this
theorem box7e {w W : World} {t : TypeId} {a b c d e f g : Value} (hW : W = w.alloc (.cells #[a, b, c, d, e, f, g] t)) : Below w.heap.size w W ∧ W.heap.size = w.heap.size + 1 ∧ Box7 W w.heap.size a b c d e f g t := by
  subst hW
  exact ⟨(Below.refl _ _).alloc (Nat.le_refl _) _, by simp, Box7.new⟩
/-- Two requests in memory that say the same are the same for the reference. -/
theorem same_of (D : Rqd) (bs : List Int) (er : Int) (hU : UB bs) (he : classH bs = er) (hD : (if er = 0 then decR bs else ⟨⟨0, 0, [], 0⟩, [], [], []⟩) = D)
    {hA hA' : Option Addr} {hn hn' hc hc' : Nat} {hrs hrs' : List Rg} {RA RA' : Option Addr} {rn rn' rc rc' : Nat} {rs rs' : List Rg} {PA PA' : Option Addr} {pn pn' pc pc' : Nat} {QA QA' : Option Addr} {qn qn' qc qc' : Nat} {T T' : Nat → Prop} {w : World}
    (h1 : ReqR w T hA hn hc hrs RA rn rc rs PA pn pc D.ps QA qn qc D.qs) (h2 : ReqR w T' hA' hn' hc' hrs' RA' rn' rc' rs' PA' pn' pc' D.ps QA' qn' qc' D.qs) (k1 : hrs.map rgK = D.h.ks) (k2 : hrs'.map rgK = D.h.ks) (p1 : rgP hrs = false) (p2 : rgP hrs' = false) (s1 : rs.map rgD = D.rs) (s2 : rs'.map rgD = D.rs) :
    Calls Tryd.prog 16 #[.agg #[.int .i64 D.h.op, .int .i64 D.h.vs, .slice hA hn hc, .int .i64 D.h.pts, .slice RA rn rc, .slice PA pn pc, .slice QA qn qc], .agg #[.int .i64 D.h.op, .int .i64 D.h.vs, .slice hA' hn' hc', .int .i64 D.h.pts, .slice RA' rn' rc', .slice PA' pn' pc', .slice QA' qn' qc']] w fun e w' => e = .returned (.bool true) ∧ Below w.heap.size w w' := by
  obtain ⟨b1, b2, b3, b4, b5⟩ := decD_bd hU he hD
  have e1 : hn = D.h.ks.length := by rw [h1.hlen, ← k1, List.length_map]
  have e1' : hn' = D.h.ks.length := by rw [h2.hlen, ← k2, List.length_map]
  have e2 : rn = D.rs.length := by rw [h1.rlen, ← s1, List.length_map]
  have e2' : rn' = D.rs.length := by rw [h2.rlen, ← s2, List.length_map]
  have e3 := h1.plen
  have e4 := h1.qlen
  obtain rfl : hn' = hn := by rw [e1, e1']
  obtain rfl : rn' = rn := by rw [e2, e2']
  obtain rfl : pn' = pn := by rw [h2.plen, e3]
  obtain rfl : qn' = qn := by rw [h2.qlen, e4]
  refine ref18Same_yes _ _ _ hA hA' _ hc hc' hrs hrs' RA RA' _ rc rc' rs rs' PA PA' _ pc pc' D.ps QA QA' _ qc qc' D.qs T T' w h1 h2 ⟨by omega, by omega, by omega, by omega⟩ (fun r hr => ?_) (fun k g1 g2 => ?_) (fun k g1 g2 => ?_)
  · have := b5 (rgD r) (by rw [← s1]; exact List.mem_map_of_mem hr)
    have h9 : r.l.length ≤ 64 := this
    omega
  · have := map_at k1 k2 k g1 g2
    unfold rgK at this
    injection this with q1 q2
    exact ⟨q1, q2, by rw [noPts p1 k g1, noPts p2 k g2]⟩
  · have := map_at s1 s2 k g1 g2
    unfold rgD rgK at this
    injection this with q1 q2
    injection q1 with q3 q4
    exact ⟨q3, q4, q2⟩
set_option maxHeartbeats 2000000 in
theorem law_codecDecodes (A : Option Addr) (c : Nat) (bs : List Int) (n : Nat) (w : World) (hw : Wts w) (ha : ArgB w A c bs) (hnb : n = bs.length) :
    Calls Tryd.prog 4 #[.slice A n c] w fun e w' => e = .returned (.bool true) ∧ Below w.heap.size w w' := by
  have HA := Lib.hid ha
  have HN := Lib.hid hnb
  have hnl : n ≤ 9223372036854775807 := by rw [hnb]; have := ha.cap; have := ha.room; omega
  obtain ⟨er, her⟩ : ∃ er, classH bs = er := ⟨_, rfl⟩
  obtain ⟨D, hD⟩ : ∃ D, (if er = 0 then decR bs else ⟨⟨0, 0, [], 0⟩, [], [], []⟩) = D := ⟨_, rfl⟩
  have HE := Lib.hid her
  have HD := Lib.hid hD
  clear ha hnb her hD
  by_cases hq : 50000 < (n : Int)
  · go_enter Tryd.func4, Tryd.ntmps4
    go_wp2_with (fail)
    refine (alive18_any w hw).mono ?_
    rintro e w2 ⟨rfl, hb2⟩
    go_wp2
    go_ret
    exact ⟨rfl, hb2⟩
  · go_enter Tryd.func4, Tryd.ntmps4
    go_wp2_with (fail)
    refine (codDecode_c A n c bs _ er D w hw HA.out.row HN.out HA.out.ub hnl (by rw [HN.out]; exact HA.out.cap) HE.out HD.out).mono ?_
    rintro e w1 ⟨hA1, hn1, hc1, hrs1, RA1, rn1, rc1, rs1, PA1, pn1, pc1, QA1, qn1, qc1, rfl, hr1, k1, p1, s1, hb1⟩
    obtain ⟨W1, hW1⟩ : ∃ W1, W1 = w1.alloc (.cells #[.int .i64 D.h.op, .int .i64 D.h.vs, .slice hA1 hn1 hc1, .int .i64 D.h.pts, .slice RA1 rn1 rc1, .slice PA1 pn1 pc1, .slice QA1 qn1 qc1] 35) := ⟨_, rfl⟩
    obtain ⟨x1, _, y⟩ := box7e hW1
    obtain ⟨B1, hB1⟩ : ∃ b, b = w1.heap.size := ⟨_, rfl⟩
    rw [← hB1] at y
    have q1 : Below w.heap.size w W1 := hb1.trans (x1.mono hb1.size)
    have hr1 := hr1.next x1
    have HW1 := Lib.hid hW1
    have HB1 := Lib.hid hB1
    have HR1 := Lib.hid hr1
    have HS1 := Lib.hid (And.intro k1 (And.intro p1 s1))
    clear hW1 hB1 hb1 x1 k1 p1 s1 hr1
    go_upto_region 4 with (fail)
    rw [← HW1.out, ← HB1.out]
    go_wp2_with (fail)
    refine (ref18Decode_any A n c bs _ er D W1 (HA.out.next q1).row HN.out HA.out.ub hnl HE.out HD.out).mono ?_
    rintro e w2 ⟨hA2, hn2, hc2, hrs2, RA2, rn2, rc2, rs2, PA2, pn2, pc2, QA2, qn2, qc2, rfl, hr2, k2, p2, s2, hb2⟩
    obtain ⟨W2, hW2⟩ : ∃ W2, W2 = w2.alloc (.cells #[.int .i64 D.h.op, .int .i64 D.h.vs, .slice hA2 hn2 hc2, .int .i64 D.h.pts, .slice RA2 rn2 rc2, .slice PA2 pn2 pc2, .slice QA2 qn2 qc2] 38) := ⟨_, rfl⟩
    obtain ⟨x2, _, z⟩ := box7e hW2
    obtain ⟨B2, hB2⟩ : ∃ b, b = w2.heap.size := ⟨_, rfl⟩
    rw [← hB2] at z
    have q2 : Below W1.heap.size W1 W2 := hb2.trans (x2.mono hb2.size)
    have hr2 := hr2.next x2
    have HR1b := Lib.hid (HR1.out.next q2)
    have y := y.same (q2.block _ y.lt)
    have HW2 := Lib.hid hW2
    have HB2 := Lib.hid hB2
    have HR2 := Lib.hid hr2
    have HS2 := Lib.hid (And.intro k2 (And.intro p2 s2))
    have qq := q1.trans (q2.mono q1.size)
    clear hW2 hB2 hb2 x2 k2 p2 s2 hr2
    go_upto_region 5 with (fail)
    rw [← HW2.out, ← HB2.out]
    go_wp2_with (fail)
    refine (alive18_any W2 (hw.below qq)).mono ?_
    rintro e w3 ⟨rfl, hb3⟩
    obtain ⟨⟨y0, y1, y2, y3, y4, y5, y6⟩, _⟩ := (y.same (hb3.block _ y.lt)).at_
    obtain ⟨⟨z0, z1, z2, z3, z4, z5, z6⟩, _⟩ := (z.same (hb3.block _ z.lt)).at_
    have q3 := qq.trans (hb3.mono qq.size)
    clear y z
    go_wp2_with (fail)
    refine (same_of D bs er HA.out.ub HE.out HD.out (HR1b.out.next hb3) (HR2.out.next hb3) HS1.out.1 HS2.out.1 HS1.out.2.1 HS2.out.2.1 HS1.out.2.2 HS2.out.2.2).mono ?_
    rintro e w4 ⟨rfl, hb4⟩
    go_wp2
    go_ret
    exact ⟨rfl, q3.trans (hb4.mono q3.size)⟩
end Go.Proofs.YtcfdpimpleniaaaDoor
namespace Go.Proofs.YtcfdpimpleniaaaDoor
open Go.RowKit
set_option maxRecDepth 100000
set_option linter.unusedVariables false
set_option linter.unusedSimpArgs false

set_option maxHeartbeats 2000000 in
theorem law_codecRoundTrip (op vx pts : Int) (hA : Option Addr) (hn hc : Nat) (hrs : List Rg) (RA : Option Addr) (rn rc : Nat) (rs : List Rg) (PA : Option Addr) (pn pc : Nat) (ps : List Pt) (QA : Option Addr) (qn qc : Nat) (qs : List Qr) (w : World) (hw : Wts w) (hr : ReqR w (fun _ => True) hA hn hc hrs RA rn rc rs PA pn pc ps QA qn qc qs) (hN : ReqN op vx pts hn rn pn qn hrs) :
    Calls Tryd.prog 5 #[.agg #[.int .i64 op, .int .i64 vx, .slice hA hn hc, .int .i64 pts, .slice RA rn rc, .slice PA pn pc, .slice QA qn qc]] w fun e w' => e = .returned (.bool true) ∧ Below w.heap.size w w' := by
  obtain ⟨W, hW⟩ : ∃ W, W = w.alloc (.cells #[.int .i64 op, .int .i64 vx, .slice hA hn hc, .int .i64 pts, .slice RA rn rc, .slice PA pn pc, .slice QA qn qc] 28) := ⟨_, rfl⟩
  obtain ⟨B, hB⟩ : ∃ b, b = w.heap.size := ⟨_, rfl⟩
  obtain ⟨h0, hsW, g0, g1, g2, g3, g4, g5, g6⟩ := box7 hW
  rw [← hB] at g0 g1 g2 g3 g4 g5 g6
  have HRQ := Lib.hid (hr.next h0)
  have HN := Lib.hid hN
  have HW := Lib.hid hW
  have HB := Lib.hid hB
  have HG := Lib.hid (ReqAt.mk g0 g1 g2 g3 g4 g5 g6)
  have hBW : B < W.heap.size := by omega
  obtain ⟨er, her⟩ : ∃ er, encE ⟨⟨op, vx, hrs.map rgK, pts⟩, rs.map rgD, ps, qs⟩ (rgP hrs) = er := ⟨_, rfl⟩
  obtain ⟨bs, hbs⟩ : ∃ bs, (if er = 0 then encB ⟨⟨op, vx, hrs.map rgK, pts⟩, rs.map rgD, ps, qs⟩ else []) = bs := ⟨_, rfl⟩
  have HE := Lib.hid her
  have HBS := Lib.hid hbs
  clear hW hB hr hN her hbs hsW
  go_enter Tryd.func5, Tryd.ntmps5
  go_upto_region 1 with (fail)
  rw [← HW.out, ← HB.out]
  go_wp2_with (fail)
  refine (large18_any op vx pts hA hn hc RA rn rc rs PA pn pc QA qn qc _ W HRQ.out.rrow HRQ.out.rlen HN.out.len.2.1).mono ?_
  rintro e w1 ⟨q, rfl, hb1⟩
  have q1 := h0.trans (hb1.mono h0.size)
  clear g0 g1 g2 g3 g4 g5 g6
  cases q with
  | true =>
    go_wp2_with (fail)
    refine (alive18_any w1 (hw.below q1)).mono ?_
    rintro e w2 ⟨rfl, hb2⟩
    go_wp2
    go_ret
    exact ⟨rfl, q1.trans (hb2.mono q1.size)⟩
  | false =>
    obtain ⟨k0, k1, k2, k3, k4, k5, k6⟩ := HG.out.next hb1 hBW
    go_wp2_with (fail)
    refine (codEncode_c op vx pts hA hn hc hrs RA rn rc rs PA pn pc ps QA qn qc qs er bs w1 (hw.below q1) (HRQ.out.next hb1).low HN.out.len HN.out.num HN.out.wf HE.out HBS.out).mono ?_
    rintro e w2 ⟨v2, rfl, hown2, hb2⟩
    have hb12 := hb1.trans (hb2.mono hb1.size)
    have q2 := q1.trans (hb2.mono q1.size)
    obtain ⟨A2, n2, c2, rfl, hn2, hc2, hm2, hs2, _⟩ := own_b hown2
    have HN2 := Lib.hid hn2
    have hn2l : n2 ≤ 9223372036854775807 := Nat.le_trans hc2 (Nat.le_trans hm2 (by decide))
    clear k0 k1 k2 k3 k4 k5 k6 hb2 hown2 hn2 hm2
    by_cases he0 : er = 0
    · subst he0
      have h5 := encE_ok HE.out
      have HBB := Lib.hid (show encB ⟨⟨op, vx, hrs.map rgK, pts⟩, rs.map rgD, ps, qs⟩ = bs by have := HBS.out; rwa [if_pos rfl] at this)
      have hrt := dec_enc HE.out (fun x hx => by
        obtain ⟨y, hy, rfl⟩ := List.mem_map.1 hx
        exact (HRQ.out.rok y hy).ss) HRQ.out.pss HRQ.out.qok
      have hub : UB bs := by rw [← HBB.out]; exact encB_ub h5.1
      rw [HBB.out] at hrt
      have HC := Lib.hid hrt.1
      have HDD := Lib.hid (show (if (0 : Int) = 0 then decR bs else ⟨⟨0, 0, [], 0⟩, [], [], []⟩) = (⟨⟨op, vx, hrs.map rgK, pts⟩, rs.map rgD, ps, qs⟩ : Rqd) by rw [if_pos rfl]; exact hrt.2)
      have HP0 := Lib.hid h5.2.1
      clear hrt h5
      go_wp2_with (fail)
      refine (codDecode_c A2 n2 c2 bs _ 0 _ w2 (hw.below q2) hs2 HN2.out hub hn2l hc2 HC.out HDD.out).mono ?_
      rintro e w3 ⟨hA1, hn1, hc1, hrs1, RA1, rn1, rc1, rs1, PA1, pn1, pc1, QA1, qn1, qc1, rfl, hr1, k1, p1, s1, hb3⟩
      obtain ⟨W1, hW1⟩ : ∃ W1, W1 = w3.alloc (.cells #[.int .i64 op, .int .i64 vx, .slice hA1 hn1 hc1, .int .i64 pts, .slice RA1 rn1 rc1, .slice PA1 pn1 pc1, .slice QA1 qn1 qc1] 35) := ⟨_, rfl⟩
      obtain ⟨x1, _, y⟩ := box7e hW1
      obtain ⟨B1, hB1⟩ : ∃ b, b = w3.heap.size := ⟨_, rfl⟩
      rw [← hB1] at y
      have q3 : Below w2.heap.size w2 W1 := hb3.trans (x1.mono hb3.size)
      have hr1 := hr1.next x1
      have HW1 := Lib.hid hW1
      have HB1 := Lib.hid hB1
      have HR1 := Lib.hid hr1
      have HS1 := Lib.hid (And.intro k1 (And.intro p1 s1))
      have q4 := q2.trans (q3.mono q2.size)
      have hb14 := hb12.trans (q3.mono hb12.size)
      clear hW1 hB1 hb3 x1 k1 p1 s1 hr1
      go_upto_region 7 with (fail)
      rw [← HW1.out, ← HB1.out]
      go_wp2_with (fail)
      refine (alive18_any W1 (hw.below q4)).mono ?_
      rintro e w5 ⟨rfl, hb5⟩
      obtain ⟨⟨y0, y1, y2, y3, y4, y5, y6⟩, _⟩ := (y.same (hb5.block _ y.lt)).at_
      have hb15 := hb14.trans (hb5.mono hb14.size)
      obtain ⟨k0, k1, k2, k3, k4, k5, k6⟩ := HG.out.next hb15 hBW
      have q5 := q4.trans (hb5.mono q4.size)
      clear y
      go_wp2_with (fail)
      refine (same_of (⟨⟨op, vx, hrs.map rgK, pts⟩, rs.map rgD, ps, qs⟩ : Rqd) bs 0 hub HC.out HDD.out (HR1.out.next hb5) (HRQ.out.next hb15) HS1.out.1 rfl HS1.out.2.1 HP0.out HS1.out.2.2 rfl).mono ?_
      rintro e w6 ⟨rfl, hb6⟩
      go_wp2
      go_ret
      exact ⟨rfl, q5.trans (hb6.mono q5.size)⟩
    · have d1 : (er != 0) = true := by rw [bne_iff_ne]; exact he0
      have hn20 : ((n2 : Int) == 0) = true := by
        rw [beq_iff_eq, HN2.out, ← HBS.out, if_neg he0]; rfl
      clear he0
      go_wp2_with (fail)
      refine (alive18_any w2 (hw.below q2)).mono ?_
      rintro e w3 ⟨rfl, hb3⟩
      go_wp2
      go_ret
      exact ⟨rfl, q2.trans (hb3.mono q2.size)⟩
end Go.Proofs.YtcfdpimpleniaaaDoor
namespace Go.Proofs.YtcfdpimpleniaaaDoor
open Go.RowKit
set_option maxRecDepth 100000
set_option linter.unusedVariables false
set_option linter.unusedSimpArgs false

def padL (pl : List Int) (k : Nat) : List Int := (List.range k).map fun i : Nat => if i < pl.length then dgt pl i else (i : Int) % 256
theorem padL_len (pl : List Int) (k : Nat) : (padL pl k).length = k := by unfold padL; simp
theorem padL_succ (pl : List Int) (k : Nat) : padL pl (k + 1) = padL pl k ++ [if k < pl.length then dgt pl k else (k : Int) % 256] := by unfold padL; rw [List.range_succ]; simp
theorem padL_ub {pl : List Int} (h : UB pl) (k : Nat) : UB (padL pl k) := fun x hx => by
  unfold padL at hx
  obtain ⟨i, _, rfl⟩ := List.mem_map.1 hx
  split
  · exact h.dgt i
  · omega
/-- A header and as many bytes as it asks for. -/
theorem canon_dec {h : Hq} (hk : Okh h) {P : List Int} (hU : UB P) (hl : (P.length : Int) = payL h) : classH (formB h ++ P) = 0 ∧ UB (formB h ++ P) := by
  have hub : UB (formB h ++ P) := (formB_ub hk).app hU
  refine ⟨?_, hub⟩
  unfold classH
  rw [parse_form hk P]
  simp only
  rw [if_pos trivial, if_pos]
  rw [List.length_append]; omega
theorem ReqR.all {w : World} {T : Nat → Prop} {hA : Option Addr} {hn hc : Nat} {hrs : List Rg} {RA : Option Addr} {rn rc : Nat} {rs : List Rg} {PA : Option Addr} {pn pc : Nat} {ps : List Pt} {QA : Option Addr} {qn qc : Nat} {qs : List Qr} (h : ReqR w T hA hn hc hrs RA rn rc rs PA pn pc ps QA qn qc qs) :
    ReqR w (fun _ => True) hA hn hc hrs RA rn rc rs PA pn pc ps QA qn qc qs :=
  ⟨h.hrow.imp fun _ _ => trivial, h.hlen, h.rrow.imp fun _ _ => trivial, h.rlen, h.rok.imp fun _ _ => trivial, h.prow.imp fun _ _ => trivial, h.plen, h.pss, h.qrow.imp fun _ _ => trivial, h.qlen, h.qok, h.pcap⟩
theorem okh_num {h : Hq} (hk : Okh h) : S h.op ∧ S h.vs ∧ S h.pts := by
  have h1 := hk.op
  have h2 : h.vs = 0 ∨ (3 ≤ h.vs ∧ h.vs ≤ 64) := by
    by_cases e : h.op = 3
    · exact .inr (hk.vs3 e)
    · exact .inl (hk.vs0 e)
  have h3 : h.pts = 0 ∨ (1 ≤ h.pts ∧ h.pts ≤ 4096) := by
    by_cases e : h.op = 5
    · exact .inr (hk.pts5 e)
    · exact .inl (hk.pts0 e)
  unfold S
  omega
def CanRel (W : World) (Fm pl : List Int) (m : Nat) (v i : Value) (wr : World) : Prop := ∃ k : Nat, i = .int .i64 k ∧ k ≤ m ∧ OwnK wr W.heap.size 5 .u8 v (Fm ++ padL pl k) ∧ Below W.heap.size W wr
set_option maxHeartbeats 2000000 in
theorem law_codecIsCanonical (op vx pts : Int) (hA : Option Addr) (hc : Nat) (hrs : List Rg) (A : Option Addr) (c : Nat) (pl : List Int) (hn n : Nat) (w : World) (hw : Wts w) (hh : ArgH w op vx pts hA hc hrs) (hhn : hn = hrs.length) (ha : ArgB w A c pl) (hnb : n = pl.length) :
    Calls Tryd.prog 6 #[.agg #[.int .i64 op, .int .i64 vx, .slice hA hn hc, .int .i64 pts], .slice A n c] w fun e w' => e = .returned (.bool true) ∧ Below w.heap.size w w' := by
  obtain ⟨W, hW⟩ : ∃ W, W = w.alloc (.cells #[.int .i64 op, .int .i64 vx, .slice hA hn hc, .int .i64 pts] 24) := ⟨_, rfl⟩
  obtain ⟨h0, _, g0, g1, g2, g3⟩ := box4 hW
  obtain ⟨B, hB⟩ : ∃ b, b = w.heap.size := ⟨_, rfl⟩
  rw [← hB] at g0 g1 g2 g3
  have HH := Lib.hid (hh.next h0)
  have HA := Lib.hid (ha.next h0)
  have HHN := Lib.hid hhn
  have HN := Lib.hid hnb
  have HW := Lib.hid hW
  have HB := Lib.hid hB
  have hnl : n ≤ 9223372036854775807 := by rw [hnb]; have := ha.cap; have := ha.room; omega
  have hhl : hn ≤ 9223372036854775807 := by rw [hhn]; exact hh.len
  obtain ⟨fe, hfe⟩ : ∃ fe, formErr ⟨op, vx, hrs.map rgK, pts⟩ (rgP hrs) = fe := ⟨_, rfl⟩
  have HFE := Lib.hid hfe
  clear hW hB hh ha hhn hnb hfe
  go_enter Tryd.func6, Tryd.ntmps6
  go_upto_region 1 with (fail)
  rw [← HW.out, ← HB.out]
  go_wp2_with (fail)
  refine (ref17Format_any op vx pts hA hn hc hrs fe _ W (low_row HH.out.row) HHN.out hhl HFE.out rfl).mono ?_
  rintro e w1 ⟨v1, rfl, hown1, hb1⟩
  have q1 := h0.trans (hb1.mono h0.size)
  have k0 := keepW hb1 g0
  have k1 := keepW hb1 g1
  have k2 := keepW hb1 g2
  have k3 := keepW hb1 g3
  by_cases hf : fe = 0
  · subst hf
    have hok := formErr_ok.1 HFE.out
    rw [if_pos rfl] at hown1
    have HK := Lib.hid hok.1
    obtain ⟨m0, hm0⟩ : ∃ m0, payL ⟨op, vx, hrs.map rgK, pts⟩ = m0 := ⟨_, rfl⟩
    have hm00 : 0 ≤ m0 := by
      rw [← hm0, payL_eq hok.1]
      have h1 := ptsK_nn (hrs.map rgK)
      have h2 := cnt_nn hok.1
      simp only
      omega
    have HM := Lib.hid hm0
    obtain ⟨Fm, hFm⟩ : ∃ Fm, formB ⟨op, vx, hrs.map rgK, pts⟩ = Fm := ⟨_, rfl⟩
    rw [hFm] at hown1
    have HF := Lib.hid hFm
    have hFl : Fm.length ≤ 1000 := by
      rw [← hFm]
      have := (formB_len hok.1).2
      omega
    have HOWN := Lib.hid hown1
    clear hok hm0 hFm hown1
    go_wp2_with (fail)
    refine (ref17Payload_any op vx pts hA hn hc hrs m0 _ w1 (HH.out.next hb1).row HHN.out HK.out HM.out).mono ?_
    rintro e w2 ⟨rfl, hb2⟩
    have hb12 := hb1.trans (hb2.mono hb1.size)
    have q2 := q1.trans (hb2.mono q1.size)
    by_cases hbig : 50000 < m0
    · go_wp2_with (fail)
      refine (alive18_any w2 (hw.below q2)).mono ?_
      rintro e w3 ⟨rfl, hb3⟩
      go_wp2
      go_ret
      exact ⟨rfl, q2.trans (hb3.mono q2.size)⟩
    · obtain ⟨m, hm⟩ : ∃ m : Nat, m0 = m := ⟨m0.toNat, by omega⟩
      have HMN := Lib.hid hm
      have hm5 : m ≤ 50000 := by omega
      have HO2 := Lib.hid (HOWN.out.keep_ fun g hg => hb2.block g (World.ownsRow.lt HOWN.out g hg).2)
      clear hm k0 k1 k2 k3 g0 g1 g2 g3
      go_wp2
      go_loopw [5, 28] (fun v i wr => CanRel W Fm pl m v i wr) (fun _ i _ => m - (intOf i).toNat)
      case atStart => exact ⟨0, rfl, Nat.zero_le _, by show OwnK _ _ _ _ _ (Fm ++ []); rw [List.append_nil]; exact HO2.out, hb12⟩
      case round =>
        obtain ⟨k, rfl, hkm, hown, hbr⟩ := hrel
        obtain ⟨Y, hY⟩ : ∃ Y, Y = Fm ++ padL pl k := ⟨_, rfl⟩
        have hYl : Y.length ≤ 100000 := by rw [hY, List.length_append, padL_len]; omega
        have HPS := Lib.hid (show Fm ++ padL pl (k + 1) = Y ++ [if k < pl.length then dgt pl k else (k : Int) % 256] by rw [padL_succ, hY, List.append_assoc])
        rw [← hY] at hown
        have HY := Lib.hid hY
        clear hY
        have hbs := hbr.size
        by_cases hgo : k < m
        · have hgi : (k : Int) < m0 := by have := HMN.out; omega
          by_cases hkp : k < n
          · obtain ⟨pb, po, rfl, _, cx⟩ := (HA.out.next hbr).row.at_ (j := k) (by rw [← HN.out]; exact hkp)
            rw [← dgt_lt (by rw [← HN.out]; exact hkp)] at cx
            have hd := HA.out.ub.dgt k
            rw [if_pos (by rw [← HN.out]; exact hkp)] at HPS
            generalize dgt pl k = x at cx hd HPS
            go_wp2_with (first
              | (at_builtin; refine wp_app_lit rfl _ _ rfl W.heap.size _ Y rfl hown [x] 1 1 rfl rfl (by simp; omega) hbs ?_
                 intro v' w' hown' hb'
                 have HO' := Lib.hid (show OwnK w' W.heap.size 5 .u8 v' (Fm ++ padL pl (k + 1)) by rw [HPS.out]; exact hown')
                 clear hown' hown))
            go_roundw
            case rel => exact ⟨k + 1, by go_num, by omega, HO'.out, hbr.trans hb'⟩
            case measure => simp [intOf]; omega
          · rw [if_neg (by rw [← HN.out]; exact hkp)] at HPS
            have e8 : IntKind.u8.wrap (k : Int) = (k : Int) % 256 := by simp [IntKind.wrap, IntKind.signed, IntKind.bits]
            have hx : 0 ≤ (k : Int) % 256 ∧ (k : Int) % 256 ≤ 255 := by omega
            generalize (k : Int) % 256 = x at e8 hx HPS
            go_wp2_with (first
              | (at_builtin; refine wp_app_lit rfl _ _ rfl W.heap.size _ Y rfl hown [x] 1 1 rfl rfl (by simp; omega) hbs ?_
                 intro v' w' hown' hb'
                 have HO' := Lib.hid (show OwnK w' W.heap.size 5 .u8 v' (Fm ++ padL pl (k + 1)) by rw [HPS.out]; exact hown')
                 clear hown' hown))
            go_roundw
            case rel => exact ⟨k + 1, by go_num, by omega, HO'.out, hbr.trans hb'⟩
            case measure => simp [intOf]; omega
        · obtain ⟨w3, hw3⟩ : ∃ w0, w0 = wr := ⟨_, rfl⟩
          subst hw3
          have hge : ¬ (k : Int) < m0 := by have := HMN.out; omega
          have hke : k = m := by omega
          subst hke
          obtain ⟨A2, n2, c2, rfl, hn2, hc2, hm2, hs2, _⟩ := own_b hown
          have hn2l : n2 ≤ 9223372036854775807 := Nat.le_trans hc2 (Nat.le_trans hm2 (by decide))
          have hcan := canon_dec (h := ⟨op, vx, hrs.map rgK, pts⟩) HK.out (P := padL pl k) (padL_ub HA.out.ub k) (by rw [padL_len, HM.out, HMN.out])
          rw [HF.out, ← HY.out] at hcan
          have hed := enc_dec hcan.2 hcan.1
          obtain ⟨D, hD⟩ : ∃ D, decR Y = D := ⟨_, rfl⟩
          rw [hD] at hed
          have HN2 := Lib.hid hn2
          have HC := Lib.hid hcan.1
          have hub := hcan.2
          have HDD := Lib.hid (show (if (0 : Int) = 0 then decR Y else ⟨⟨0, 0, [], 0⟩, [], [], []⟩) = D by rw [if_pos rfl]; exact hD)
          have HED := Lib.hid hed
          have q3 := h0.trans (hbr.mono h0.size)
          clear hcan hed hD hn2 hm2 HPS hown HO2
          go_wp2_with (fail)
          refine (codDecode_c A2 n2 c2 Y _ 0 D w3 (hw.below q3) hs2 HN2.out hub hn2l hc2 HC.out HDD.out).mono ?_
          rintro e w4 ⟨hA1, hn1, hc1, hrs1, RA1, rn1, rc1, rs1, PA1, pn1, pc1, QA1, qn1, qc1, rfl, hr1, k1, p1, s1, hb4⟩
          obtain ⟨W1, hW1⟩ : ∃ W1, W1 = w4.alloc (.cells #[.int .i64 D.h.op, .int .i64 D.h.vs, .slice hA1 hn1 hc1, .int .i64 D.h.pts, .slice RA1 rn1 rc1, .slice PA1 pn1 pc1, .slice QA1 qn1 qc1] 35) := ⟨_, rfl⟩
          obtain ⟨x1, _, y⟩ := box7e hW1
          obtain ⟨B1, hB1⟩ : ∃ b, b = w4.heap.size := ⟨_, rfl⟩
          rw [← hB1] at y
          have q4 : Below w3.heap.size w3 W1 := hb4.trans (x1.mono hb4.size)
          obtain ⟨⟨y0, y1, y2, y3, y4, y5, y6⟩, _⟩ := y.at_
          have hr1 := (hr1.next x1).all
          have hbd := decD_bd hub HC.out HDD.out
          have e1 : hn1 = D.h.ks.length := by rw [hr1.hlen, ← k1, List.length_map]
          have e2 : rn1 = D.rs.length := by rw [hr1.rlen, ← s1, List.length_map]
          have e3 := hr1.plen
          have e4 := hr1.qlen
          have hlen : hn1 ≤ 9223372036854775807 ∧ rn1 ≤ 9223372036854775807 ∧ pn1 ≤ 9223372036854775807 ∧ qn1 ≤ 9223372036854775807 := by omega
          have hko := HED.out.2.2
          have hnum : S D.h.op ∧ S D.h.vs ∧ S D.h.pts := okh_num hko
          have hwf : ∀ r ∈ hrs1, S r.v := fun r hr => okh_vS hko (x := rgK r) (by rw [← k1]; exact List.mem_map_of_mem hr)
          have HE1 := Lib.hid (show encE ⟨⟨D.h.op, D.h.vs, hrs1.map rgK, D.h.pts⟩, rs1.map rgD, D.ps, D.qs⟩ (rgP hrs1) = 0 by rw [k1, s1, p1]; exact HED.out.1)
          have HE2 := Lib.hid (show (if (0 : Int) = 0 then encB ⟨⟨D.h.op, D.h.vs, hrs1.map rgK, D.h.pts⟩, rs1.map rgD, D.ps, D.qs⟩ else []) = Y by rw [if_pos rfl, k1, s1]; exact HED.out.2.1)
          have HW1 := Lib.hid hW1
          have HB1 := Lib.hid hB1
          have HR1 := Lib.hid hr1
          have qq := q3.trans (q4.mono q3.size)
          have hs2b := hs2.next q4
          clear hW1 hB1 hb4 x1 k1 p1 s1 hr1 y hbd e1 e2 e3 e4 hko
          go_upto_region 16 with (fail)
          rw [← HW1.out, ← HB1.out]
          go_wp2_with (fail)
          refine (codEncode_c D.h.op D.h.vs D.h.pts hA1 hn1 hc1 hrs1 RA1 rn1 rc1 rs1 PA1 pn1 pc1 D.ps QA1 qn1 qc1 D.qs 0 Y W1 (hw.below qq) HR1.out.low hlen hnum hwf HE1.out HE2.out).mono ?_
          rintro e w5 ⟨v5, rfl, hown5, hb5⟩
          have q5 := qq.trans (hb5.mono qq.size)
          obtain ⟨A5, n5, c5, rfl, hn5, _, _, hs5, _⟩ := own_b hown5
          have HN5 := Lib.hid hn5
          have hs2c := hs2b.next hb5
          clear hown5 hn5 y0 y1 y2 y3 y4 y5 y6 hb5
          go_wp2_with (fail)
          refine (alive18_any w5 (hw.below q5)).mono ?_
          rintro e w6 ⟨rfl, hb6⟩
          have q6 := q5.trans (hb6.mono q5.size)
          go_wp2_with (fail)
          refine (equalB_yes A2 A5 n2 n5 c2 c5 Y _ _ w6 (hs2c.next hb6) (hs5.next hb6) HN2.out HN5.out).mono ?_
          rintro e w7 ⟨rfl, hw7⟩
          obtain rfl := hw7.symm
          go_wp2
          go_ret
          exact ⟨rfl, q6⟩
  · have d1 : (fe != 0) = true := by rw [bne_iff_ne]; exact hf
    clear hf hown1
    go_wp2_with (fail)
    refine (alive18_any w1 (hw.below q1)).mono ?_
    rintro e w3 ⟨rfl, hb3⟩
    go_wp2
    go_ret
    exact ⟨rfl, q1.trans (hb3.mono q1.size)⟩
end Go.Proofs.YtcfdpimpleniaaaDoor
