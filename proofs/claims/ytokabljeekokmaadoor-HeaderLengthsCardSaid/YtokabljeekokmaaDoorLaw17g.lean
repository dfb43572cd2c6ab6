/-
  Layer 17: laws. (Written by law17.py.)
-/
import Derived.Test.YtokabljeekokmaaDoorLaw17d
import Derived.Test.YtokabljeekokmaaDoorByZ
namespace Go.Proofs.YtokabljeekokmaaDoor
open Go.RowKit Go.Maps
set_option maxRecDepth 100000
set_option linter.unusedVariables false
set_option linter.unusedSimpArgs false

theorem i16_of_wf {a : Int} (h : (Lit.int .i16 a).wf = true) : -32768 ≤ a ∧ a ≤ 32767 := by
  simp [Lit.wf, IntKind.min, IntKind.max, IntKind.signed, IntKind.bits] at h
  omega
theorem tmod_bd (z : Int) : -63 ≤ z.tmod 64 ∧ z.tmod 64 ≤ 63 := by
  have h1 := Int.tmod_lt_of_pos z (show (0 : Int) < 64 by decide)
  have h2 : -64 < z.tmod 64 := by
    rcases Int.le_total 0 z with h | h
    · have := Int.tmod_nonneg 64 h; omega
    · have h3 : (-z).tmod 64 < 64 := Int.tmod_lt_of_pos (-z) (by decide)
      rw [Int.neg_tmod] at h3; omega
  omega
set_option maxHeartbeats 2000000 in
theorem law_headerLengths (op vx pts : Int) (A : Option Addr) (n c : Nat) (rs : List Rg) (w : World) (hw : Wts w) (ha : ArgH w op vx pts A c rs) (hn : n = rs.length) (z : Int) (hz : -32768 ≤ z ∧ z ≤ 32767) :
    Calls Tryd.prog 9 #[.agg #[.int .i64 op, .int .i64 vx, .slice A n c, .int .i64 pts], .int .i16 z] w fun e w' => e = .returned (.bool true) ∧ Below w.heap.size w w' := by
  obtain ⟨hz1, hz2⟩ := hz
  have hmx : n ≤ 9223372036854775807 := by rw [hn]; exact ha.len
  have HN := Lib.hid hn
  clear hn
  go_enter Tryd.func9, Tryd.ntmps9
  go_upto_region 1 with (fail)
  obtain ⟨b0, hb0⟩ : ∃ b, b = w.heap.size := ⟨_, rfl⟩
  obtain ⟨W0, hW0⟩ : ∃ W, W = w.alloc (.cells #[.int .i64 op, .int .i64 vx, .slice A n c, .int .i64 pts] 25) := ⟨_, rfl⟩
  obtain ⟨x0, y0, c00, c01, c02, c03⟩ := box4 hW0
  rw [← hb0] at c00 c01 c02 c03
  rw [← hW0, ← hb0]
  clear y0 hW0 hb0
  go_wp2_with (fail)
  refine (large17_any op vx pts A n c W0).mono ?_
  rintro e w1 ⟨rfl, hb1⟩
  have q1 := x0.trans (hb1.mono x0.size)
  by_cases hL : 200 < n
  · have d1 : decide (200 < n) = true := by simpa using hL
    clear ha hL
    go_wp2_with (fail)
    refine (alive17_any _ (hw.below q1)).mono ?_
    rintro e w5 ⟨rfl, hb5⟩
    go_wp2
    go_ret
    exact ⟨rfl, q1.trans (hb5.mono q1.size)⟩
  have d0 : decide (200 < n) = false := by simpa using hL
  have hml : n ≤ 1000000 := by omega
  have hS := ha.num
  have hv := ha.wf
  have hr1 := low_row (ha.row.next q1)
  clear ha hL
  obtain ⟨er, her⟩ : ∃ er, formErr ⟨op, vx, rs.map rgK, pts⟩ (rgP rs) = er := ⟨_, rfl⟩
  obtain ⟨bs, hbs⟩ : ∃ bs, (if er = 0 then formB ⟨op, vx, rs.map rgK, pts⟩ else []) = bs := ⟨_, rfl⟩
  have HE := Lib.hid her
  have HB := Lib.hid hbs
  clear her hbs
  have j0 := (hb1.cell (p := ⟨b0, 0, none⟩) (lt_of_cell c00)).trans c00
  have j1 := (hb1.cell (p := ⟨b0, 1, none⟩) (lt_of_cell c01)).trans c01
  have j2 := (hb1.cell (p := ⟨b0, 2, none⟩) (lt_of_cell c02)).trans c02
  have j3 := (hb1.cell (p := ⟨b0, 3, none⟩) (lt_of_cell c03)).trans c03
  go_wp2_with (fail)
  refine (ref17Format_any op vx pts A n c rs er bs _ hr1 HN.out (by omega) HE.out HB.out).mono ?_
  rintro e w2 ⟨v2, rfl, hown2, hb2⟩
  obtain ⟨A3, d3, rfl, hmd, hA3⟩ := OwnK.slice_ hown2 rfl
  obtain ⟨m3, hm3⟩ : ∃ m, m = bs.length := ⟨_, rfl⟩
  rw [← hm3] at hown2 hmd hA3 ⊢
  have HM3 := Lib.hid hm3
  have q2 := q1.trans (hb2.mono q1.size)
  have q02 := hb1.trans (hb2.mono hb1.size)
  have hr2 := low_row (hr1.next hb2)
  clear j0 j1 j2 j3 hm3
  by_cases he : er = 0
  · subst he
    obtain ⟨hk, hpf⟩ := formErr_ok.1 HE.out
    have HBS := Lib.hid (show formB ⟨op, vx, rs.map rgK, pts⟩ = bs by rw [← HB.out, if_pos rfl])
    have hbl := formB_len hk
    rw [HBS.out, ← HM3.out] at hbl
    have hub := formB_ub hk
    rw [HBS.out] at hub
    have hpay := payL_bd hk
    obtain ⟨p, hp⟩ : ∃ p, payL ⟨op, vx, rs.map rgK, pts⟩ = p := ⟨_, rfl⟩
    rw [hp] at hpay
    obtain ⟨hp0, hp1⟩ := hpay
    have HPb := Lib.hid hp
    obtain ⟨g, rfl, hg⟩ := hA3 (by omega)
    have hyb := tmod_bd z
    obtain ⟨y, hy⟩ : ∃ y, z.tmod 64 = y := ⟨_, rfl⟩
    rw [hy] at hyb
    obtain ⟨hy1, hy2⟩ := hyb
    clear hp
    have j0 := (q02.cell (p := ⟨b0, 0, none⟩) (lt_of_cell c00)).trans c00
    have j1 := (q02.cell (p := ⟨b0, 1, none⟩) (lt_of_cell c01)).trans c01
    have j2 := (q02.cell (p := ⟨b0, 2, none⟩) (lt_of_cell c02)).trans c02
    have j3 := (q02.cell (p := ⟨b0, 3, none⟩) (lt_of_cell c03)).trans c03
    go_wp2_with (fail)
    refine (ref17Payload_any op vx pts A n c rs p _ _ hr2 HN.out hk HPb.out).mono ?_
    rintro e w3 ⟨rfl, hb3⟩
    have q3 := q2.trans (hb3.mono q2.size)
    have hown3 := hown2.keep_ (w' := w3) fun b hb => hb3.block b (World.ownsRow.lt hown2 b hb).2
    by_cases hneg : p + y < 0
    · go_wp2_with (fail)
      refine (alive17_any _ (hw.below q3)).mono ?_
      rintro e w5 ⟨rfl, hb5⟩
      go_wp2
      go_ret
      exact ⟨rfl, q3.trans (hb5.mono q3.size)⟩
    obtain ⟨k, hkk⟩ : ∃ k : Nat, p + y = k := ⟨(p + y).toNat, by omega⟩
    obtain ⟨v5, w5, hr5, own5, hb5⟩ := run_app_zeros (k := k) hown3 HM3.out (by omega) (by have := hb2.size; have := hb3.size; omega) 22
    obtain ⟨A5, m5, d5, rfl, hm5, hm5c, hm5d, hs5, _⟩ := own_b own5
    have HM5 := Lib.hid hm5
    have hub5 : UB (bs ++ List.replicate k 0) := hub.app fun x hx => by rw [(List.mem_replicate.1 hx).2]; decide
    have hl5 : m5 ≤ 9223372036854775807 := Nat.le_trans hm5c hm5d
    have HC := Lib.hid (show classH (bs ++ List.replicate k 0) = if y = 0 then 0 else 8 by
      have hpf := parse_form hk (List.replicate k 0)
      rw [HBS.out] at hpf
      unfold classH
      rw [hpf]
      simp only
      rw [HPb.out, if_pos trivial, List.length_append, List.length_replicate]
      by_cases hy0 : y = 0
      · rw [if_pos hy0, if_pos (by omega)]
      · rw [if_neg hy0, if_neg (by omega)])
    have q5 := q1.trans ((hb2.trans ((hb3.mono hb2.size).trans hb5)).mono q1.size)
    have d3' : decide (p + y < 0) = false := by simpa using hneg
    clear hown2 hown3 own5 hm5 hneg hk hb5
    go_wp2_with (first
      | (at_builtin; refine Go.Lib.wpList_append_run _ rfl _ _ 22 3 rfl _ _ rfl rfl _ _ hr5 ?_; clear hr5))
    refine (hdrClassify_c A5 m5 d5 (bs ++ List.replicate k 0) _ _ w5 (hw.below q5) hs5 HM5.out hub5 hl5 hm5c HC.out).mono ?_
    rintro e w6 ⟨rfl, hb6⟩
    have q6 := q5.trans (hb6.mono q5.size)
    by_cases hy0 : y = 0
    · subst hy0
      rw [if_pos rfl]
      go_wp2_with (fail)
      refine (alive17_any _ (hw.below q6)).mono ?_
      rintro e w7 ⟨rfl, hb7⟩
      go_wp2
      go_ret
      exact ⟨rfl, q6.trans (hb7.mono q6.size)⟩
    · have e1 : (y == 0) = false := by rw [beq_eq_false_iff_ne]; exact hy0
      rw [if_neg hy0]
      clear hy0
      go_wp2_with (fail)
      refine (alive17_any _ (hw.below q6)).mono ?_
      rintro e w7 ⟨rfl, hb7⟩
      go_wp2
      go_ret
      exact ⟨rfl, q6.trans (hb7.mono q6.size)⟩
  · have d1 : (er == 0) = false := by rw [beq_eq_false_iff_ne]; exact he
    have d2 : (er != 0) = true := by rw [bne_iff_ne]; exact he
    clear he
    go_wp2_with (fail)
    refine (alive17_any _ (hw.below q2)).mono ?_
    rintro e w5 ⟨rfl, hb5⟩
    go_wp2
    go_ret
    exact ⟨rfl, q2.trans (hb5.mono q2.size)⟩
end Go.Proofs.YtokabljeekokmaaDoor
