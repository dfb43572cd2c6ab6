/-
  The contracts of package header over the landed code: Response and Payload. (Written by hdr17.py.)
-/
import Derived.Test.YtokabljeekokmaaDoorHdrB
namespace Go.Proofs.YtokabljeekokmaaDoor
open Go.RowKit Go.Maps
set_option maxRecDepth 100000
set_option linter.unusedVariables false
set_option linter.unusedSimpArgs false

theorem lens_h {w : World} (hw : Wts w) : w.cell? ⟨0, 2, none⟩ = some (.int .i64 3) ∧ w.cell? ⟨0, 3, none⟩ = some (.int .i64 2) ∧ w.cell? ⟨0, 4, none⟩ = some (.int .i64 4) ∧ w.cell? ⟨0, 5, none⟩ = some (.int .i64 2) ∧ w.cell? ⟨0, 6, none⟩ = some (.int .i64 1) ∧ w.cell? ⟨0, 7, none⟩ = some (.int .i64 2) ∧ w.cell? ⟨0, 8, none⟩ = some (.int .i64 1) ∧ w.cell? ⟨0, 9, none⟩ = some (.int .i64 2) ∧ w.cell? ⟨0, 10, none⟩ = some (.int .i64 0) ∧ w.cell? ⟨0, 11, none⟩ = some (.int .i64 4) := by
  have h := hw.2 (0, [.int .i64 0, .int .i64 0, .int .i64 3, .int .i64 2, .int .i64 4, .int .i64 2, .int .i64 1, .int .i64 2, .int .i64 1, .int .i64 2, .int .i64 0, .int .i64 4]) (by simp [seatTabs])
  exact ⟨h 2 _ rfl, h 3 _ rfl, h 4 _ rfl, h 5 _ rfl, h 6 _ rfl, h 7 _ rfl, h 8 _ rfl, h 9 _ rfl, h 10 _ rfl, h 11 _ rfl⟩
set_option maxHeartbeats 1000000 in
theorem hdrResponse_c (op vs pts : Int) (A : Option Addr) (n c : Nat) (rs : List Rg) (r : Int) (w : World) (hw : Wts w) (ha : RowR w (fun g => g < w.heap.size) 3 rgC A rs) (hn : n = rs.length) (hl : n ≤ 1000000) (hS : S op ∧ S vs ∧ S pts) (hv : ∀ r ∈ rs, S r.v) (hr : (if formErr ⟨op, vs, rs.map rgK, pts⟩ (rgP rs) = 0 then rspL ⟨op, vs, rs.map rgK, pts⟩ else 0) = r) :
    Calls Tryd.prog 19 #[.agg #[.int .i64 op, .int .i64 vs, .slice A n c, .int .i64 pts]] w fun e w' => e = .returned (.int .i64 r) ∧ Below w.heap.size w w' := by
  replace hl : n ≤ 9223372036854775807 := by omega
  obtain ⟨W0, hW0⟩ : ∃ W, W = w.alloc (.cells #[.int .i64 op, .int .i64 vs, .slice A n c, .int .i64 pts] 25) := ⟨_, rfl⟩
  obtain ⟨q0, _, g0, g1, g2, g3⟩ := box4 hW0
  obtain ⟨bg, hbg⟩ : ∃ b, b = w.heap.size := ⟨_, rfl⟩
  rw [← hbg] at g0 g1 g2 g3
  have HW0 := Lib.hid hW0
  have Hbg := Lib.hid hbg
  have HN := Lib.hid hn
  have ha0 := ha.next q0
  have hw0 := hw.below q0
  obtain ⟨er, her⟩ : ∃ er, formErr ⟨op, vs, rs.map rgK, pts⟩ (rgP rs) = er := ⟨_, rfl⟩
  rw [her] at hr
  have HR := Lib.hid hr
  have HE0 := Lib.hid her
  clear hW0 hbg hr hn ha her hw
  go_enter Tryd.func19, Tryd.ntmps19
  go_upto_region 1 with (fail)
  rw [← HW0.out, ← Hbg.out]
  go_wp2_with (fail)
  refine (check_h op vs pts A n c rs er _ _ ha0 hv HN.out hl HE0.out).mono ?_
  rintro e w1 ⟨rfl, h1⟩
  have k0 := (h1.cell (p := ⟨bg, 0, none⟩) (lt_of_cell g0)).trans g0
  have k1 := (h1.cell (p := ⟨bg, 1, none⟩) (lt_of_cell g1)).trans g1
  have k2 := (h1.cell (p := ⟨bg, 2, none⟩) (lt_of_cell g2)).trans g2
  have k3 := (h1.cell (p := ⟨bg, 3, none⟩) (lt_of_cell g3)).trans g3
  have q1 := q0.trans (h1.mono q0.size)
  have ha1 := ha0.next h1
  have hw1 := hw0.below h1
  clear g0 g1 g2 g3 ha0 hw0
  by_cases e0 : er = 0
  · subst e0
    obtain ⟨hk, _⟩ := formErr_ok.1 HE0.out
    have hop := hk.op
    simp only at hop
    have HK := Lib.hid hk
    have hop2 : op = 1 ∨ op = 2 ∨ op = 3 ∨ op = 4 ∨ op = 5 := by omega
    replace HR := Lib.hid (show rspL ⟨op, vs, rs.map rgK, pts⟩ = r by rw [← HR.out, if_pos rfl])
    clear hk
    obtain ⟨t2, t3, t4, t5, t6, t7, t8, t9, t10, t11⟩ := lens_h hw1
    rcases hop2 with rfl | rfl | rfl | rfl | rfl
    · obtain rfl : pts = 0 := HK.out.pts0 (show ¬ ((1 : Int) = 5) by decide)
      have HX := Lib.hid (show r = 2 by rw [← HR.out]; rfl)
      clear ha1
      go_wp2
      go_quiet (fail)
      go_wp2
      go_ret
      exact ⟨by rw [HX.out]; rfl, below_drewN' q1 _⟩
    · obtain rfl : pts = 0 := HK.out.pts0 (show ¬ ((2 : Int) = 5) by decide)
      have HX := Lib.hid (show r = 2 by rw [← HR.out]; rfl)
      clear ha1
      go_wp2
      go_quiet (fail)
      go_wp2
      go_ret
      exact ⟨by rw [HX.out]; rfl, below_drewN' q1 _⟩
    · obtain rfl : pts = 0 := HK.out.pts0 (show ¬ ((3 : Int) = 5) by decide)
      have HX := Lib.hid (show r = 2 by rw [← HR.out]; rfl)
      clear ha1
      go_wp2
      go_quiet (fail)
      go_wp2
      go_ret
      exact ⟨by rw [HX.out]; rfl, below_drewN' q1 _⟩
    · obtain rfl : pts = 0 := HK.out.pts0 (show ¬ ((4 : Int) = 5) by decide)
      have HX := Lib.hid (show r = 2 by rw [← HR.out]; rfl)
      clear ha1
      go_wp2
      go_quiet (fail)
      go_wp2
      go_ret
      exact ⟨by rw [HX.out]; rfl, below_drewN' q1 _⟩
    · have hp := HK.out.pts5 rfl
      simp only at hp
      have HX := Lib.hid (show r = 4 + pts * 9 by rw [← HR.out]; unfold rspL; rw [if_pos rfl]; show 4 + 9 * pts = _; omega)
      clear ha1
      go_wp2
      go_quiet (fail)
      go_wp2
      go_ret
      exact ⟨by rw [HX.out]; rfl, below_drewN' q1 _⟩
  · have HX := Lib.hid (show r = 0 by rw [← HR.out, if_neg e0])
    have d0 : (er != 0) = true := by rw [bne_iff_ne]; exact e0
    clear e0
    go_wp2
    go_ret
    exact ⟨by rw [HX.out]; rfl, q1⟩
/-- The loop of Payload. -/
def PayRel (w W : World) (x0 : Int) (rs : List Rg) (m i : Value) (wr : World) : Prop := ∃ k : Nat, i = .int .i64 k ∧ k ≤ rs.length ∧ m = .int .i64 (x0 + ptsK ((rs.take k).map rgK)) ∧ Below W.heap.size W wr
set_option maxHeartbeats 4000000 in
theorem hdrPayload_c (op vs pts : Int) (A : Option Addr) (n c : Nat) (rs : List Rg) (r : Int) (w : World) (hw : Wts w) (ha : RowR w (fun g => g < w.heap.size) 3 rgC A rs) (hn : n = rs.length) (hl : n ≤ 1000000) (hS : S op ∧ S vs ∧ S pts) (hv : ∀ r ∈ rs, S r.v) (hr : (if formErr ⟨op, vs, rs.map rgK, pts⟩ (rgP rs) = 0 then payL ⟨op, vs, rs.map rgK, pts⟩ else 0) = r) :
    Calls Tryd.prog 18 #[.agg #[.int .i64 op, .int .i64 vs, .slice A n c, .int .i64 pts]] w fun e w' => e = .returned (.int .i64 r) ∧ Below w.heap.size w w' := by
  replace hl : n ≤ 9223372036854775807 := by omega
  obtain ⟨W0, hW0⟩ : ∃ W, W = w.alloc (.cells #[.int .i64 op, .int .i64 vs, .slice A n c, .int .i64 pts] 25) := ⟨_, rfl⟩
  obtain ⟨q0, _, g0, g1, g2, g3⟩ := box4 hW0
  obtain ⟨bg, hbg⟩ : ∃ b, b = w.heap.size := ⟨_, rfl⟩
  rw [← hbg] at g0 g1 g2 g3
  have HW0 := Lib.hid hW0
  have Hbg := Lib.hid hbg
  have HN := Lib.hid hn
  have ha0 := ha.next q0
  have hw0 := hw.below q0
  obtain ⟨er, her⟩ : ∃ er, formErr ⟨op, vs, rs.map rgK, pts⟩ (rgP rs) = er := ⟨_, rfl⟩
  rw [her] at hr
  have HR := Lib.hid hr
  have HE0 := Lib.hid her
  clear hW0 hbg hr hn ha her hw
  go_enter Tryd.func18, Tryd.ntmps18
  go_upto_region 1 with (fail)
  rw [← HW0.out, ← Hbg.out]
  go_wp2_with (fail)
  refine (check_h op vs pts A n c rs er _ _ ha0 hv HN.out hl HE0.out).mono ?_
  rintro e w1 ⟨rfl, h1⟩
  have k0 := (h1.cell (p := ⟨bg, 0, none⟩) (lt_of_cell g0)).trans g0
  have k1 := (h1.cell (p := ⟨bg, 1, none⟩) (lt_of_cell g1)).trans g1
  have k2 := (h1.cell (p := ⟨bg, 2, none⟩) (lt_of_cell g2)).trans g2
  have k3 := (h1.cell (p := ⟨bg, 3, none⟩) (lt_of_cell g3)).trans g3
  have q1 := q0.trans (h1.mono q0.size)
  have ha1 := ha0.next h1
  have hw1 := hw0.below h1
  clear g0 g1 g2 g3 ha0 hw0
  by_cases e0 : er = 0
  · subst e0
    obtain ⟨hk, _⟩ := formErr_ok.1 HE0.out
    have hop := hk.op
    simp only at hop
    have HK := Lib.hid hk
    have hop2 : op = 1 ∨ op = 2 ∨ op = 3 ∨ op = 4 ∨ op = 5 := by omega
    replace HR := Lib.hid (show payL ⟨op, vs, rs.map rgK, pts⟩ = r by rw [← HR.out, if_pos rfl])
    clear hk
    obtain ⟨t2, t3, t4, t5, t6, t7, t8, t9, t10, t11⟩ := lens_h hw1
    rcases hop2 with rfl | rfl | rfl | rfl | rfl
    · have hrs : rs = [] := by have := HK.out.len0 (show (1 : Int) < 4 by decide); simpa using this
      obtain rfl := hrs
      obtain rfl : n = 0 := HN.out
      obtain rfl : vs = 0 := HK.out.vs0 (show ¬ ((1 : Int) = 3) by decide)
      obtain rfl : pts = 0 := HK.out.pts0 (show ¬ ((1 : Int) = 5) by decide)
      have HX := Lib.hid (show r = 48 by rw [← HR.out]; unfold payL; rfl)
      go_wp2
      go_quiet (fail)
      obtain ⟨W2, hW2⟩ : ∃ W2, W2 = w1.drewN nq := ⟨_, rfl⟩
      have q2 : Below w.heap.size w W2 := by rw [hW2]; exact below_drewN' q1 _
      have ha2 : RowR W2 (fun g => g < w.heap.size) 3 rgC A ([] : List Rg) := by rw [hW2]; exact ha1
      have k2 : W2.cell? ⟨bg, 2, none⟩ = some (.slice A 0 c) := by rw [hW2]; exact k2
      have k3 : W2.cell? ⟨bg, 3, none⟩ = some (.int .i64 0) := by rw [hW2]; exact k3
      rw [← hW2]
      have HW2 := Lib.hid hW2
      clear hW2 ha1
      have ha2 := ha2.now (fun _ => Nat.succ_pos 2)
      go_wp2
      go_loopw [3, 20] (fun m i wr => PayRel w W2 3 [] m i wr) (fun _ i _ => 0 - (intOf i).toNat)
      case atStart => exact ⟨0, rfl, Nat.zero_le _, by show _ = Value.int _ (_ + ptsK []); simp [ptsK], Below.refl _ _⟩
      case round =>
        obtain ⟨k, rfl, hkk, rfl, hb⟩ := hrel
        rw [← HN.out] at hkk
        have k3 := (hb.cell (p := ⟨bg, 3, none⟩) (lt_of_cell k3)).trans k3
        have hgo : ¬ k < 0 := by omega
        have hE : ptsK (([] : List Rg).take k |>.map rgK) = 0 := by simp [ptsK]
        rw [hE]
        clear hE ha2
        go_wp2
        go_ret
        exact ⟨by rw [HX.out]; rfl, q2.trans (hb.mono q2.size)⟩
    · have hrs : rs = [] := by have := HK.out.len0 (show (2 : Int) < 4 by decide); simpa using this
      obtain rfl := hrs
      obtain rfl : n = 0 := HN.out
      obtain rfl : vs = 0 := HK.out.vs0 (show ¬ ((2 : Int) = 3) by decide)
      obtain rfl : pts = 0 := HK.out.pts0 (show ¬ ((2 : Int) = 5) by decide)
      have HX := Lib.hid (show r = 64 by rw [← HR.out]; unfold payL; rfl)
      go_wp2
      go_quiet (fail)
      obtain ⟨W2, hW2⟩ : ∃ W2, W2 = w1.drewN nq := ⟨_, rfl⟩
      have q2 : Below w.heap.size w W2 := by rw [hW2]; exact below_drewN' q1 _
      have ha2 : RowR W2 (fun g => g < w.heap.size) 3 rgC A ([] : List Rg) := by rw [hW2]; exact ha1
      have k2 : W2.cell? ⟨bg, 2, none⟩ = some (.slice A 0 c) := by rw [hW2]; exact k2
      have k3 : W2.cell? ⟨bg, 3, none⟩ = some (.int .i64 0) := by rw [hW2]; exact k3
      rw [← hW2]
      have HW2 := Lib.hid hW2
      clear hW2 ha1
      have ha2 := ha2.now (fun _ => Nat.succ_pos 2)
      go_wp2
      go_loopw [3, 20] (fun m i wr => PayRel w W2 4 [] m i wr) (fun _ i _ => 0 - (intOf i).toNat)
      case atStart => exact ⟨0, rfl, Nat.zero_le _, by show _ = Value.int _ (_ + ptsK []); simp [ptsK], Below.refl _ _⟩
      case round =>
        obtain ⟨k, rfl, hkk, rfl, hb⟩ := hrel
        rw [← HN.out] at hkk
        have k3 := (hb.cell (p := ⟨bg, 3, none⟩) (lt_of_cell k3)).trans k3
        have hgo : ¬ k < 0 := by omega
        have hE : ptsK (([] : List Rg).take k |>.map rgK) = 0 := by simp [ptsK]
        rw [hE]
        clear hE ha2
        go_wp2
        go_ret
        exact ⟨by rw [HX.out]; rfl, q2.trans (hb.mono q2.size)⟩
    · have hrs : rs = [] := by have := HK.out.len0 (show (3 : Int) < 4 by decide); simpa using this
      obtain rfl := hrs
      obtain rfl : n = 0 := HN.out
      have hv3 := HK.out.vs3 rfl
      simp only at hv3
      obtain rfl : pts = 0 := HK.out.pts0 (show ¬ ((3 : Int) = 5) by decide)
      have HX := Lib.hid (show r = (1 + vs) * 16 by rw [← HR.out]; unfold payL; simp only [show ¬ ((3 : Int) = 1) by decide, show ¬ ((3 : Int) = 2) by decide, if_false, if_true]; omega)
      go_wp2
      go_quiet (fail)
      obtain ⟨W2, hW2⟩ : ∃ W2, W2 = w1.drewN nq := ⟨_, rfl⟩
      have q2 : Below w.heap.size w W2 := by rw [hW2]; exact below_drewN' q1 _
      have ha2 : RowR W2 (fun g => g < w.heap.size) 3 rgC A ([] : List Rg) := by rw [hW2]; exact ha1
      have k2 : W2.cell? ⟨bg, 2, none⟩ = some (.slice A 0 c) := by rw [hW2]; exact k2
      have k3 : W2.cell? ⟨bg, 3, none⟩ = some (.int .i64 0) := by rw [hW2]; exact k3
      rw [← hW2]
      have HW2 := Lib.hid hW2
      clear hW2 ha1
      have ha2 := ha2.now (fun _ => Nat.succ_pos 2)
      go_wp2
      go_loopw [3, 20] (fun m i wr => PayRel w W2 (1 + vs) [] m i wr) (fun _ i _ => 0 - (intOf i).toNat)
      case atStart => exact ⟨0, rfl, Nat.zero_le _, by show _ = Value.int _ (_ + ptsK []); simp [ptsK], Below.refl _ _⟩
      case round =>
        obtain ⟨k, rfl, hkk, rfl, hb⟩ := hrel
        rw [← HN.out] at hkk
        have k3 := (hb.cell (p := ⟨bg, 3, none⟩) (lt_of_cell k3)).trans k3
        have hgo : ¬ k < 0 := by omega
        have hE : ptsK (([] : List Rg).take k |>.map rgK) = 0 := by simp [ptsK]
        rw [hE]
        clear hE ha2
        go_wp2
        go_ret
        exact ⟨by rw [HX.out]; rfl, q2.trans (hb.mono q2.size)⟩
    · have hn64 : n ≤ 64 := by have := (HK.out.len (show (4 : Int) ≤ 4 by decide)).2; rw [HN.out]; simpa using this
      obtain rfl : vs = 0 := HK.out.vs0 (show ¬ ((4 : Int) = 3) by decide)
      obtain rfl : pts = 0 := HK.out.pts0 (show ¬ ((4 : Int) = 5) by decide)
      have HX := Lib.hid (show r = (1 + ptsK (rs.map rgK)) * 16 by rw [← HR.out]; unfold payL; simp only [show ¬ ((4 : Int) = 1) by decide, show ¬ ((4 : Int) = 2) by decide, show ¬ ((4 : Int) = 3) by decide, if_false, if_true]; omega)
      go_wp2
      go_quiet (fail)
      obtain ⟨W2, hW2⟩ : ∃ W2, W2 = w1.drewN nq := ⟨_, rfl⟩
      have q2 : Below w.heap.size w W2 := by rw [hW2]; exact below_drewN' q1 _
      have ha2 : RowR W2 (fun g => g < w.heap.size) 3 rgC A rs := by rw [hW2]; exact ha1
      have k2 : W2.cell? ⟨bg, 2, none⟩ = some (.slice A n c) := by rw [hW2]; exact k2
      have k3 : W2.cell? ⟨bg, 3, none⟩ = some (.int .i64 0) := by rw [hW2]; exact k3
      rw [← hW2]
      have HW2 := Lib.hid hW2
      clear hW2 ha1
      have ha2 := ha2.now (fun _ => Nat.succ_pos 2)
      go_wp2
      go_loopw [3, 20] (fun m i wr => PayRel w W2 1 rs m i wr) (fun _ i _ => n - (intOf i).toNat)
      case atStart => exact ⟨0, rfl, Nat.zero_le _, by show _ = Value.int _ (_ + ptsK []); simp [ptsK], Below.refl _ _⟩
      case round =>
        obtain ⟨k, rfl, hkk, rfl, hb⟩ := hrel
        rw [← HN.out] at hkk
        have k3 := (hb.cell (p := ⟨bg, 3, none⟩) (lt_of_cell k3)).trans k3
        by_cases hgo : k < n
        · have hgo2 : k < rs.length := by rw [← HN.out]; exact hgo
          have HPk := Lib.hid (ptsK_take hgo2)
          have hbd := ptsK_bd ((rs.take k).map rgK)
          have hbl : ((rs.take k).map rgK).length ≤ 64 := by simp; omega
          obtain ⟨xk, hxk⟩ : ∃ xk, xk = ptsK ((rs.take k).map rgK) := ⟨_, rfl⟩
          rw [← hxk] at hbd HPk
          simp only [← hxk]
          clear hxk
          obtain ⟨b, o, rfl, ⟨hSb, hbl⟩, c0, c1, c2⟩ := ha2.rg2 hgo2
          have c0 := (hb.cell (p := ⟨b, o + k * 3, none⟩) hbl).trans c0
          have c1 := (hb.cell (p := ⟨b, o + k * 3 + 1, none⟩) hbl).trans c1
          have c2 := (hb.cell (p := ⟨b, o + k * 3 + 2, none⟩) hbl).trans c2
          have HSv := Lib.hid (hv _ (List.getElem_mem hgo2))
          obtain ⟨z, hz⟩ : ∃ z, sizeF (rs[k]'hgo2).v = z := ⟨_, rfl⟩
          have hzb := sizeF_bd (rs[k]'hgo2).v
          rw [hz] at HPk hzb
          have HZs := Lib.hid hz
          clear hz
          generalize rs[k]'hgo2 = g at *
          obtain ⟨d, v, A2, cp, l⟩ := g
          have hSv2 := HSv.out
          simp only at c0 c1 c2 hSv2
          obtain ⟨m, hm⟩ : ∃ m, m = l.length := ⟨_, rfl⟩
          rw [← hm] at c2
          obtain ⟨W, hW⟩ : ∃ W, W = wr.alloc (.cells #[.bool d, .int .i64 v, .slice A2 m cp] 52) := ⟨_, rfl⟩
          obtain ⟨B, hB⟩ : ∃ B, B = wr.heap.size := ⟨_, rfl⟩
          have h0 : Below wr.heap.size wr W := by rw [hW]; exact (Below.refl _ _).alloc (Nat.le_refl _) _
          have k0 : W.cell? ⟨B, 0, none⟩ = some (.bool d) := by rw [hW, hB]; simp [go_sem]
          have k1 : W.cell? ⟨B, 1, none⟩ = some (.int .i64 v) := by rw [hW, hB]; simp [go_sem]
          have k2 : W.cell? ⟨B, 2, none⟩ = some (.slice A2 m cp) := by rw [hW, hB]; simp [go_sem]
          have hbW := hb.trans (h0.mono hb.size)
          have HW := Lib.hid hW
          have HB := Lib.hid hB
          clear hW hB hm hgo2 ha2
          go_wp2_with (fail)
          rw [← HW.out, ← HB.out]
          refine (fenceSize_c d v (.slice A2 m cp) z W hSv2 HZs.out).mono ?_
          rintro e w3 ⟨rfl, h3⟩
          have h2 := hbW.trans (h3.mono hbW.size)
          clear c0 c1 c2 k0 k1 k2
          go_wp2
          go_roundw
          case rel => exact ⟨k + 1, by go_num, by rw [← HN.out]; omega, by rw [HPk.out]; congr 1; omega, h2⟩
          case measure => simp [intOf]; omega
        · have HXX := Lib.hid (show ptsK (rs.map rgK) = ptsK ((rs.take k).map rgK) by rw [List.take_of_length_le (by rw [← HN.out]; omega)])
          have hbd := ptsK_bd ((rs.take k).map rgK)
          have hbl : ((rs.take k).map rgK).length ≤ 64 := by simp; omega
          obtain ⟨xk, hxk⟩ : ∃ xk, xk = ptsK ((rs.take k).map rgK) := ⟨_, rfl⟩
          rw [← hxk] at hbd HXX
          simp only [← hxk]
          clear hxk ha2
          go_wp2
          go_ret
          exact ⟨by rw [HX.out, HXX.out]; rfl, q2.trans (hb.mono q2.size)⟩
    · have hn64 : n ≤ 64 := by have := (HK.out.len (show (4 : Int) ≤ 5 by decide)).2; rw [HN.out]; simpa using this
      obtain rfl : vs = 0 := HK.out.vs0 (show ¬ ((5 : Int) = 3) by decide)
      have hp5 := HK.out.pts5 rfl
      simp only at hp5
      have HX := Lib.hid (show r = ptsK (rs.map rgK) * 16 + pts * 24 by rw [← HR.out]; unfold payL; simp only [show ¬ ((5 : Int) = 1) by decide, show ¬ ((5 : Int) = 2) by decide, show ¬ ((5 : Int) = 3) by decide, show ¬ ((5 : Int) = 4) by decide, if_false]; omega)
      go_wp2
      go_quiet (fail)
      obtain ⟨W2, hW2⟩ : ∃ W2, W2 = w1.drewN nq := ⟨_, rfl⟩
      have q2 : Below w.heap.size w W2 := by rw [hW2]; exact below_drewN' q1 _
      have ha2 : RowR W2 (fun g => g < w.heap.size) 3 rgC A rs := by rw [hW2]; exact ha1
      have k2 : W2.cell? ⟨bg, 2, none⟩ = some (.slice A n c) := by rw [hW2]; exact k2
      have k3 : W2.cell? ⟨bg, 3, none⟩ = some (.int .i64 pts) := by rw [hW2]; exact k3
      rw [← hW2]
      have HW2 := Lib.hid hW2
      clear hW2 ha1
      have ha2 := ha2.now (fun _ => Nat.succ_pos 2)
      go_wp2
      go_loopw [3, 20] (fun m i wr => PayRel w W2 0 rs m i wr) (fun _ i _ => n - (intOf i).toNat)
      case atStart => exact ⟨0, rfl, Nat.zero_le _, by show _ = Value.int _ (_ + ptsK []); simp [ptsK], Below.refl _ _⟩
      case round =>
        obtain ⟨k, rfl, hkk, rfl, hb⟩ := hrel
        rw [← HN.out] at hkk
        have k3 := (hb.cell (p := ⟨bg, 3, none⟩) (lt_of_cell k3)).trans k3
        by_cases hgo : k < n
        · have hgo2 : k < rs.length := by rw [← HN.out]; exact hgo
          have HPk := Lib.hid (ptsK_take hgo2)
          have hbd := ptsK_bd ((rs.take k).map rgK)
          have hbl : ((rs.take k).map rgK).length ≤ 64 := by simp; omega
          obtain ⟨xk, hxk⟩ : ∃ xk, xk = ptsK ((rs.take k).map rgK) := ⟨_, rfl⟩
          rw [← hxk] at hbd HPk
          simp only [← hxk]
          clear hxk
          obtain ⟨b, o, rfl, ⟨hSb, hbl⟩, c0, c1, c2⟩ := ha2.rg2 hgo2
          have c0 := (hb.cell (p := ⟨b, o + k * 3, none⟩) hbl).trans c0
          have c1 := (hb.cell (p := ⟨b, o + k * 3 + 1, none⟩) hbl).trans c1
          have c2 := (hb.cell (p := ⟨b, o + k * 3 + 2, none⟩) hbl).trans c2
          have HSv := Lib.hid (hv _ (List.getElem_mem hgo2))
          obtain ⟨z, hz⟩ : ∃ z, sizeF (rs[k]'hgo2).v = z := ⟨_, rfl⟩
          have hzb := sizeF_bd (rs[k]'hgo2).v
          rw [hz] at HPk hzb
          have HZs := Lib.hid hz
          clear hz
          generalize rs[k]'hgo2 = g at *
          obtain ⟨d, v, A2, cp, l⟩ := g
          have hSv2 := HSv.out
          simp only at c0 c1 c2 hSv2
          obtain ⟨m, hm⟩ : ∃ m, m = l.length := ⟨_, rfl⟩
          rw [← hm] at c2
          obtain ⟨W, hW⟩ : ∃ W, W = wr.alloc (.cells #[.bool d, .int .i64 v, .slice A2 m cp] 52) := ⟨_, rfl⟩
          obtain ⟨B, hB⟩ : ∃ B, B = wr.heap.size := ⟨_, rfl⟩
          have h0 : Below wr.heap.size wr W := by rw [hW]; exact (Below.refl _ _).alloc (Nat.le_refl _) _
          have k0 : W.cell? ⟨B, 0, none⟩ = some (.bool d) := by rw [hW, hB]; simp [go_sem]
          have k1 : W.cell? ⟨B, 1, none⟩ = some (.int .i64 v) := by rw [hW, hB]; simp [go_sem]
          have k2 : W.cell? ⟨B, 2, none⟩ = some (.slice A2 m cp) := by rw [hW, hB]; simp [go_sem]
          have hbW := hb.trans (h0.mono hb.size)
          have HW := Lib.hid hW
          have HB := Lib.hid hB
          clear hW hB hm hgo2 ha2
          go_wp2_with (fail)
          rw [← HW.out, ← HB.out]
          refine (fenceSize_c d v (.slice A2 m cp) z W hSv2 HZs.out).mono ?_
          rintro e w3 ⟨rfl, h3⟩
          have h2 := hbW.trans (h3.mono hbW.size)
          clear c0 c1 c2 k0 k1 k2
          go_wp2
          go_roundw
          case rel => exact ⟨k + 1, by go_num, by rw [← HN.out]; omega, by rw [HPk.out]; congr 1; omega, h2⟩
          case measure => simp [intOf]; omega
        · have HXX := Lib.hid (show ptsK (rs.map rgK) = ptsK ((rs.take k).map rgK) by rw [List.take_of_length_le (by rw [← HN.out]; omega)])
          have hbd := ptsK_bd ((rs.take k).map rgK)
          have hbl : ((rs.take k).map rgK).length ≤ 64 := by simp; omega
          obtain ⟨xk, hxk⟩ : ∃ xk, xk = ptsK ((rs.take k).map rgK) := ⟨_, rfl⟩
          rw [← hxk] at hbd HXX
          simp only [← hxk]
          clear hxk ha2
          go_wp2
          go_ret
          exact ⟨by rw [HX.out, HXX.out]; rfl, q2.trans (hb.mono q2.size)⟩
  · have HX := Lib.hid (show r = 0 by rw [← HR.out, if_neg e0])
    have d0 : (er != 0) = true := by rw [bne_iff_ne]; exact e0
    clear e0
    go_wp2
    go_ret
    exact ⟨by rw [HX.out]; rfl, q1⟩
end Go.Proofs.YtokabljeekokmaaDoor
