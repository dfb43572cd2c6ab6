/-
  Layer 17: laws. (Written by law17.py.)
-/
import Derived.Test.YtokabljeekokmaaDoorLaw17d
namespace Go.Proofs.YtokabljeekokmaaDoor
open Go.RowKit Go.Maps
set_option maxRecDepth 100000
set_option linter.unusedVariables false
set_option linter.unusedSimpArgs false

def PfRel (w2 : World) (m : Nat) (i _a _b _c _d : Value) (wr : World) : Prop := ∃ j : Nat, i = .int .i64 j ∧ j ≤ m ∧ Below w2.heap.size w2 wr
set_option maxHeartbeats 2000000 in
theorem law_headerPrefixes (op vx pts : Int) (A : Option Addr) (n c : Nat) (rs : List Rg) (w : World) (hw : Wts w) (ha : ArgH w op vx pts A c rs) (hn : n = rs.length) :
    Calls Tryd.prog 8 #[.agg #[.int .i64 op, .int .i64 vx, .slice A n c, .int .i64 pts]] w fun e w' => e = .returned (.bool true) ∧ Below w.heap.size w w' := by
  have hmx : n ≤ 9223372036854775807 := by rw [hn]; exact ha.len
  have HN := Lib.hid hn
  clear hn
  go_enter Tryd.func8, Tryd.ntmps8
  go_upto_region 1 with (fail)
  obtain ⟨b0, hb0⟩ : ∃ b, b = w.heap.size := ⟨_, rfl⟩
  obtain ⟨W0, hW0⟩ : ∃ W, W = w.alloc (.cells #[.int .i64 op, .int .i64 vx, .slice A n c, .int .i64 pts] 25) := ⟨_, rfl⟩
  obtain ⟨x0, y0, c00, c01, c02, c03⟩ := box4 hW0
  rw [← hb0] at c00 c01 c02 c03
  rw [← hW0, ← hb0]
  clear y0 hW0 hb0
  go_wp2_with (fail)
  refine (large17_any op vx pts A n c W0).mono ?_
  rintro e w1 ⟨rfl, hb1⟩
  have q1 := x0.trans (hb1.mono x0.size)
  by_cases hL : 200 < n
  · have d1 : decide (200 < n) = true := by simpa using hL
    clear ha hL
    go_wp2_with (fail)
    refine (alive17_any _ (hw.below q1)).mono ?_
    rintro e w5 ⟨rfl, hb5⟩
    go_wp2
    go_ret
    exact ⟨rfl, q1.trans (hb5.mono q1.size)⟩
  have d0 : decide (200 < n) = false := by simpa using hL
  have hml : n ≤ 1000000 := by omega
  have hS := ha.num
  have hv := ha.wf
  have hr1 := low_row (ha.row.next q1)
  clear ha hL
  obtain ⟨er, her⟩ : ∃ er, formErr ⟨op, vx, rs.map rgK, pts⟩ (rgP rs) = er := ⟨_, rfl⟩
  obtain ⟨bs, hbs⟩ : ∃ bs, (if er = 0 then formB ⟨op, vx, rs.map rgK, pts⟩ else []) = bs := ⟨_, rfl⟩
  have HE := Lib.hid her
  have HB := Lib.hid hbs
  clear her hbs
  have j0 := (hb1.cell (p := ⟨b0, 0, none⟩) (lt_of_cell c00)).trans c00
  have j1 := (hb1.cell (p := ⟨b0, 1, none⟩) (lt_of_cell c01)).trans c01
  have j2 := (hb1.cell (p := ⟨b0, 2, none⟩) (lt_of_cell c02)).trans c02
  have j3 := (hb1.cell (p := ⟨b0, 3, none⟩) (lt_of_cell c03)).trans c03
  go_wp2_with (fail)
  refine (ref17Format_any op vx pts A n c rs er bs _ hr1 HN.out (by omega) HE.out HB.out).mono ?_
  rintro e w2 ⟨v2, rfl, hown2, hb2⟩
  obtain ⟨A3, m3, d3, rfl, hm3, hmd, hdl, hs3, hnil3⟩ := own_b hown2
  have HM3 := Lib.hid hm3
  have q2 := q1.trans (hb2.mono q1.size)
  clear j0 j1 j2 j3 hm3 hown2
  by_cases he : er = 0
  · subst he
    obtain ⟨hk, hpf⟩ := formErr_ok.1 HE.out
    have HBS := Lib.hid (show formB ⟨op, vx, rs.map rgK, pts⟩ = bs by rw [← HB.out, if_pos rfl])
    have hbl := formB_len hk
    rw [HBS.out] at hbl
    have hub := formB_ub hk
    rw [HBS.out] at hub
    have HPF := Lib.hid (fun (j : Nat) (hj : j < bs.length) => (by rw [← HBS.out]; exact parse_pre hk (by rw [HBS.out]; exact hj) : parseH (bs.take j) = badP 4))
    rw [← HM3.out] at hbl
    obtain ⟨b, o, rfl, _, hcs⟩ := hs3 (by rw [← HM3.out]; omega)
    have hs4 : SlR w2 (fun _ => True) .u8 (some ⟨b, o, none⟩) bs := hs3.imp fun _ _ => trivial
    clear hcs hs3 hk
    have hdc : d3 ≤ 9223372036854775807 := hdl
    go_wp2
    go_loopw [22, 5, 6, 7, 8] (fun i a b c d wr => PfRel w2 m3 i a b c d wr) (fun i _ _ _ _ _ => m3 - (intOf i).toNat)
    case atStart => exact ⟨0, rfl, Nat.zero_le _, Below.refl _ _⟩
    case round =>
      obtain ⟨j, rfl, hj, hbr⟩ := hrel
      have q3 := q2.trans (hbr.mono q2.size)
      by_cases hgo : j < m3
      · have hln := Lib.hid (show j = (bs.take j).length by rw [List.length_take, ← HM3.out]; omega)
        have hsj := ((hs4.next hbr).take j)
        have HPj := Lib.hid ((HPF.out j (by rw [← HM3.out]; exact hgo)) : parseH (bs.take j) = ⟨⟨0, 0, [], 0⟩, 0, 4⟩)
        have hjm : (j : Int) ≤ m3 := by omega
        have hubj := hub.take j
        clear hs4
        go_wp2_with (fail)
        refine (hdrParse_c _ j d3 (bs.take j) _ _ wr (hw.below q3) hsj hln.out hubj (by omega) (by omega) HPj.out).mono ?_
        intro e w7 hg
        obtain ⟨A7, n7, d7, rs7, rfl, hn7, hr7, hk7, hp7, hb7⟩ := hg.open_
        have HN7 := Lib.hid hn7
        have HK7 := Lib.hid hk7
        have HT7 := Lib.hid hp7
        clear hg hn7 hk7 hp7
        go_upto_region 10 with (fail)
        obtain ⟨b8, hb8⟩ : ∃ b, b = w7.heap.size := ⟨_, rfl⟩
        obtain ⟨W8, hW8⟩ : ∃ W, W = w7.alloc (.cells #[.int .i64 0, .int .i64 0, .slice A7 n7 d7, .int .i64 0] 25) := ⟨_, rfl⟩
        obtain ⟨x8, y8, c80, c81, c82, c83⟩ := box4 hW8
        rw [← hb8] at c80 c81 c82 c83
        rw [← hW8, ← hb8]
        clear y8 hW8 hb8
        have q8 := hbr.trans ((hb7.trans (x8.mono hb7.size)).mono hbr.size)
        go_wp2
        go_roundw
        case rel => exact ⟨j + 1, by go_num, by omega, q8⟩
        case measure => simp [intOf]; omega
      · clear hs4
        go_wp2_with (fail)
        refine (alive17_any _ (hw.below q3)).mono ?_
        rintro e w5 ⟨rfl, hb5⟩
        go_wp2
        go_ret
        exact ⟨rfl, q3.trans (hb5.mono q3.size)⟩
  · have d1 : (er == 0) = false := by rw [beq_eq_false_iff_ne]; exact he
    have d2 : (er != 0) = true := by rw [bne_iff_ne]; exact he
    clear he hs3
    go_wp2_with (fail)
    refine (alive17_any _ (hw.below q2)).mono ?_
    rintro e w5 ⟨rfl, hb5⟩
    go_wp2
    go_ret
    exact ⟨rfl, q2.trans (hb5.mono q2.size)⟩
end Go.Proofs.YtokabljeekokmaaDoor
