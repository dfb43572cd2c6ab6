/-
  Layer 17: laws. (Written by law17.py.)
-/
import Derived.Test.YtokabljeekokmaaDoorLaw17d
import Derived.Test.YtokabljeekokmaaDoorLaw17b
namespace Go.Proofs.YtokabljeekokmaaDoor
open Go.RowKit Go.Maps
set_option maxRecDepth 100000
set_option linter.unusedVariables false
set_option linter.unusedSimpArgs false

theorem okh_of {h : Hq} {p : Bool} (he : formErr h p = 0) : Okh h ∧ p = false := formErr_ok.1 he
set_option maxHeartbeats 2000000 in
theorem law_headerRoundTrip (op vx pts : Int) (A : Option Addr) (n c : Nat) (rs : List Rg) (w : World) (hw : Wts w) (ha : ArgH w op vx pts A c rs) (hn : n = rs.length) (A2 : Option Addr) (n2 c2 : Nat) (r : List Int) (ha2 : ArgB w A2 c2 r) (hn2 : n2 = r.length) (hr2room : c2 ≤ 140737488351232) :
    Calls Tryd.prog 6 #[.agg #[.int .i64 op, .int .i64 vx, .slice A n c, .int .i64 pts], .slice A2 n2 c2] w fun e w' => e = .returned (.bool true) ∧ Below w.heap.size w w' := by
  have HN2 := Lib.hid hn2
  have hr2cap := ha2.cap
  clear hn2
  have hmx : n ≤ 9223372036854775807 := by rw [hn]; exact ha.len
  have HN := Lib.hid hn
  clear hn
  go_enter Tryd.func6, Tryd.ntmps6
  go_upto_region 1 with (fail)
  obtain ⟨b0, hb0⟩ : ∃ b, b = w.heap.size := ⟨_, rfl⟩
  obtain ⟨W0, hW0⟩ : ∃ W, W = w.alloc (.cells #[.int .i64 op, .int .i64 vx, .slice A n c, .int .i64 pts] 25) := ⟨_, rfl⟩
  obtain ⟨x0, y0, c00, c01, c02, c03⟩ := box4 hW0
  rw [← hb0] at c00 c01 c02 c03
  rw [← hW0, ← hb0]
  clear y0 hW0 hb0
  go_wp2_with (fail)
  refine (large17_any op vx pts A n c W0).mono ?_
  rintro e w1 ⟨rfl, hb1⟩
  have q1 := x0.trans (hb1.mono x0.size)
  by_cases hL : 200 < n
  · have d1 : decide (200 < n) = true := by simpa using hL
    clear ha hL
    go_wp2_with (fail)
    refine (alive17_any _ (hw.below q1)).mono ?_
    rintro e w5 ⟨rfl, hb5⟩
    go_wp2
    go_ret
    exact ⟨rfl, q1.trans (hb5.mono q1.size)⟩
  have d0 : decide (200 < n) = false := by simpa using hL
  have hml : n ≤ 1000000 := by omega
  have hS := ha.num
  have hv := ha.wf
  have hr1 := low_row (ha.row.next q1)
  clear ha hL
  obtain ⟨er, her⟩ : ∃ er, formErr ⟨op, vx, rs.map rgK, pts⟩ (rgP rs) = er := ⟨_, rfl⟩
  obtain ⟨bs, hbs⟩ : ∃ bs, (if er = 0 then formB ⟨op, vx, rs.map rgK, pts⟩ else []) = bs := ⟨_, rfl⟩
  have HE := Lib.hid her
  have HB := Lib.hid hbs
  clear her hbs
  have j0 := (hb1.cell (p := ⟨b0, 0, none⟩) (lt_of_cell c00)).trans c00
  have j1 := (hb1.cell (p := ⟨b0, 1, none⟩) (lt_of_cell c01)).trans c01
  have j2 := (hb1.cell (p := ⟨b0, 2, none⟩) (lt_of_cell c02)).trans c02
  have j3 := (hb1.cell (p := ⟨b0, 3, none⟩) (lt_of_cell c03)).trans c03
  go_wp2_with (fail)
  refine (hdrFormat_c op vx pts A n c rs er bs _ (hw.below q1) hr1 HN.out hml hS hv HE.out HB.out).mono ?_
  rintro e w2 ⟨v2, rfl, hown2, hb2⟩
  obtain ⟨A3, m3, d3, rfl, hm3, _, _, hs3, hnil3⟩ := own_b hown2
  have HM3 := Lib.hid hm3
  have q2 := q1.trans (hb2.mono q1.size)
  have q02 := hb1.trans (hb2.mono hb1.size)
  have hr2 := low_row (hr1.next hb2)
  clear j0 j1 j2 j3 hm3 hown2
  by_cases he : er = 0
  · subst he
    obtain ⟨hk, hpf⟩ := formErr_ok.1 HE.out
    have HBS := Lib.hid (show formB ⟨op, vx, rs.map rgK, pts⟩ = bs by rw [← HB.out, if_pos rfl])
    have hbl := formB_len hk
    rw [HBS.out] at hbl
    have hub := formB_ub hk
    rw [HBS.out] at hub
    have HPF := Lib.hid (show parseH (bs ++ r) = ⟨⟨op, vx, rs.map rgK, pts⟩, bs.length, 0⟩ by rw [← HBS.out]; exact parse_form hk r)
    have hrow : OwnK (w2.alloc (.cells #[] 5)) w2.heap.size 5 .u8 (.slice (some ⟨w2.heap.size, 0, none⟩) 0 0) [] := World.ownsRow_made w2 #[] 0 (Nat.le_refl _) (by decide) rfl
    have x3 : Below w2.heap.size w2 (w2.alloc (.cells #[] 5)) := (Below.refl _ _).alloc (Nat.le_refl _) _
    have hs3' := hs3.next x3
    have ha3 := (ha2.next q2).row
    have hnil2 := ha2.nil
    have ha2u := ha2.ub
    clear hs3 ha2
    go_wp2_with (first
      | (at_builtin; refine wp_app_b rfl _ _ rfl w2.heap.size _ [] rfl hrow A3 m3 d3 bs _ rfl HM3.out hs3' hnil3 (by simp; omega) (by simp) ?_
         intro v5 w5 own5 hb5
         rw [List.nil_append] at own5
         have q5 := x3.trans hb5
         have hsr := ha3.next q5
         clear hrow hs3')
      | (at_builtin; refine wp_app_b rfl _ _ rfl w2.heap.size _ bs rfl own5 A2 n2 c2 r _ rfl HN2.out hsr hnil2 (by omega) q5.size ?_
         intro v6 w6 own6 hb6
         clear own5)
      | fail)
    obtain ⟨A6, m6, d6, rfl, hm6, hm6c, hm6b, hs6, _⟩ := own_b own6
    have HM6 := Lib.hid hm6
    have q6 := q5.trans hb6
    have q26 := q2.trans (q6.mono q2.size)
    have hl6 : m6 ≤ 9223372036854775807 := Nat.le_trans hm6c hm6b
    have hub6 : UB (bs ++ r) := hub.app ha2u
    rw [← HM3.out] at HPF
    clear hm6 own6 hsr ha3 hb5 hb6 x3
    refine (hdrParse_c A6 m6 d6 (bs ++ r) _ _ w6 (hw.below q26) hs6 HM6.out hub6 hl6 hm6c HPF.out).mono ?_
    intro e w7 hg
    obtain ⟨A7, n7, d7, rs7, rfl, hn7, hr7, hk7, hp7, hb7⟩ := hg.open_
    have HN7 := Lib.hid hn7
    have HK7 := Lib.hid hk7
    have HT7 := Lib.hid hp7
    clear hg hn7 hk7 hp7
    obtain rfl : n7 = n := by rw [HN7.out, HN.out, len_keys HK7.out, List.length_map]
    have hr6 := (hr2.next q6).next hb7
    have q67 := q6.trans (hb7.mono q6.size)
    go_upto_region 7 with (fail)
    obtain ⟨b8, hb8⟩ : ∃ b, b = w7.heap.size := ⟨_, rfl⟩
    obtain ⟨W8, hW8⟩ : ∃ W, W = w7.alloc (.cells #[.int .i64 op, .int .i64 vx, .slice A7 n7 d7, .int .i64 pts] 25) := ⟨_, rfl⟩
    obtain ⟨x8, y8, c80, c81, c82, c83⟩ := box4 hW8
    rw [← hb8] at c80 c81 c82 c83
    rw [← hW8, ← hb8]
    clear y8 hW8 hb8
    have q8 := q67.trans (x8.mono q67.size)
    have q08 := q02.trans (q8.mono q02.size)
    have q28 := q2.trans (q8.mono q2.size)
    have hr8 := hr6.next x8
    have hr7 := hr7.next x8
    go_wp2_with (fail)
    refine (alive17_any _ (hw.below q28)).mono ?_
    rintro e w9 ⟨rfl, hb9⟩
    have j0 := ((q08.trans (hb9.mono q08.size)).cell (p := ⟨b0, 0, none⟩) (lt_of_cell c00)).trans c00
    have j1 := ((q08.trans (hb9.mono q08.size)).cell (p := ⟨b0, 1, none⟩) (lt_of_cell c01)).trans c01
    have j2 := ((q08.trans (hb9.mono q08.size)).cell (p := ⟨b0, 2, none⟩) (lt_of_cell c02)).trans c02
    have j3 := ((q08.trans (hb9.mono q08.size)).cell (p := ⟨b0, 3, none⟩) (lt_of_cell c03)).trans c03
    have k0 := (hb9.cell (p := ⟨b8, 0, none⟩) (lt_of_cell c80)).trans c80
    have k1 := (hb9.cell (p := ⟨b8, 1, none⟩) (lt_of_cell c81)).trans c81
    have k2 := (hb9.cell (p := ⟨b8, 2, none⟩) (lt_of_cell c82)).trans c82
    have k3 := (hb9.cell (p := ⟨b8, 3, none⟩) (lt_of_cell c83)).trans c83
    have q9 := q28.trans (hb9.mono q28.size)
    have hr8 := hr8.next hb9
    have hr7 := hr7.next hb9
    clear c00 c01 c02 c03 c80 c81 c82 c83
    go_wp2_with (fail)
    refine (ref17Same_yes op vx pts A7 A n7 d7 c rs7 rs _ _ w9 hr7 hr8 HN7.out HN.out hml (same_keys HK7.out rfl HT7.out hpf)).mono ?_
    rintro e w10 ⟨rfl, hb10⟩
    go_wp2
    go_ret
    exact ⟨by simp, q9.trans (hb10.mono q9.size)⟩
  · have HBS := Lib.hid (show bs = [] by rw [← HB.out, if_neg he])
    have HM0 := Lib.hid (show m3 = 0 by rw [HM3.out, HBS.out]; rfl)
    obtain rfl := HM0.out
    have d1 : (er == 0) = false := by rw [beq_eq_false_iff_ne]; exact he
    have d2 : (er != 0) = true := by rw [bne_iff_ne]; exact he
    clear he ha2 hs3
    go_wp2_with (fail)
    refine (alive17_any _ (hw.below q2)).mono ?_
    rintro e w5 ⟨rfl, hb5⟩
    go_wp2
    go_ret
    exact ⟨by simp, q2.trans (hb5.mono q2.size)⟩
end Go.Proofs.YtokabljeekokmaaDoor
