/-
  Packed texts: HdrP, HdrC.
-/
import Derived.Test.YtcfdpimpleniaaaDoorP9
namespace Go.Proofs.YtcfdpimpleniaaaDoor
open Go.RowKit Go.Maps
set_option maxRecDepth 100000
set_option linter.unusedVariables false
set_option linter.unusedSimpArgs false

set_option maxHeartbeats 4000000 in
theorem hdrParse_c (A : Option Addr) (n c : Nat) (bs : List Int) (S : Nat → Prop) (P : PrS) (w : World) (hw : Wts w) (hb : SlR w S .u8 A bs) (hn : n = bs.length) (hU : UB bs) (hl : n ≤ 9223372036854775807) (hc : n ≤ c) (hP : parseH bs = P) :
    Calls Tryd.prog 37 #[.slice A n c] w (GivesH w P) := by
  obtain ⟨W0, hW0⟩ : ∃ W, W = w.alloc (.cells #[.int .i64 0, .int .i64 0, .slice none 0 0, .int .i64 0] 24) := ⟨_, rfl⟩
  have q0 : Below w.heap.size w W0 := by rw [hW0]; exact (Below.refl _ _).alloc (Nat.le_refl _) _
  have bx0 : Box4 W0 w.heap.size (.int .i64 0) (.int .i64 0) (.slice none 0 0) (.int .i64 0) 24 := by rw [hW0]; exact Box4.new
  have hz0 : W0.heap.size = w.heap.size + 1 := by rw [hW0]; simp
  obtain ⟨W1, hW1⟩ : ∃ W, W = W0.alloc (.cells #[.int .i64 0, .int .i64 0, .slice none 0 0, .int .i64 0] 24) := ⟨_, rfl⟩
  have q1 : Below W0.heap.size W0 W1 := by rw [hW1]; exact (Below.refl _ _).alloc (Nat.le_refl _) _
  have y1 : Box4 W1 W0.heap.size (.int .i64 0) (.int .i64 0) (.slice none 0 0) (.int .i64 0) 24 := by rw [hW1]; exact Box4.new
  have hz1 : W1.heap.size = w.heap.size + 2 := by rw [hW1]; simp; omega
  have bx1 := bx0.next q1 (by omega)
  have hb1 := q0.trans (q1.mono q0.size)
  rw [hz0] at y1
  obtain ⟨bz, hbz⟩ : ∃ b, b = w.heap.size := ⟨_, rfl⟩
  obtain ⟨bh, hbh⟩ : ∃ b, b = w.heap.size + 1 := ⟨_, rfl⟩
  have hzw : w.heap.size ≤ bz := by omega
  have hhw : w.heap.size ≤ bh := by omega
  have hzh : bz ≠ bh := by omega
  have hhz : bh ≠ bz := by omega
  have hsz1 : bh < W1.heap.size := by omega
  rw [← hbz] at bx0 bx1
  rw [← hbh] at y1
  obtain ⟨⟨zc0, zc1, zc2, zc3⟩, zf0, zf1, zf2, zf3⟩ := bx1.at_
  obtain ⟨⟨yc0, yc1, yc2, yc3⟩, yf0, yf1, yf2, yf3⟩ := y1.at_
  have HW0 := Lib.hid hW0
  have HW1 := Lib.hid hW1
  have HBZ := Lib.hid hbz
  have HBH := Lib.hid hbh
  have HZ0 := Lib.hid hz0
  have HN := Lib.hid hn
  have HP := Lib.hid hP
  clear hW0 hW1 hbz hbh hz0 hz1 hn hP q0 q1 bx0
  go_enter Tryd.func37, Tryd.ntmps37
  go_wp2
  rw [← HW0.out, ← HBZ.out]
  refine wp_scope_fwd 0 rfl ?_
  intro J hJ
  have HJ := Lib.hid hJ
  clear hJ
  go_upto_region 2 with (fail)
  rw [← HW1.out, HZ0.out, ← HBH.out]
  by_cases h0 : n = 0
  · have HX := Lib.hid (show P = badP 4 by rw [← HP.out]; unfold parseH; rw [if_pos (by rw [← HN.out]; exact h0)])
    subst h0
    go_wp2
    go_step3
    refine ⟨rfl, HJ.out _ _ ?_⟩
    go_wp2
    try rw [Exit.noGoto_ret]
    generalize hWf : ((((W1.setCell ⟨bz, 0, none⟩ (.int .i64 0)).setCell ⟨bz, 1, none⟩ (.int .i64 0)).setCell ⟨bz, 2, none⟩ (.slice none 0 0)).setCell ⟨bz, 3, none⟩ (.int .i64 0)) = Wf
    obtain ⟨hbf, hof, r0, r1, r2, r3⟩ := fin4 bx1 hb1 hzw hWf
    clear hWf
    refine bodyPost_ret (v := .tuple #[.agg #[.int .i64 0, .int .i64 0, .slice none 0 0, .int .i64 0], .int .i64 0, .int .i64 4]) (by simp [results, Tryd.results37, go_sem, r0, r1, r2, r3]) rfl (givesH_bad HX.out hbf)
  have hne : 0 < bs.length := by rw [← HN.out]; omega
  obtain ⟨b, o, rfl, cx0⟩ := sl_at hb hne
  rw [Nat.add_zero] at cx0
  obtain ⟨hx0, hx1⟩ := hU.at_ 0
  have HP0 := Lib.hid (show P = if dgt bs 0 < 1 ∨ 5 < dgt bs 0 then badP 5 else if dgt bs 0 < 3 then ⟨⟨dgt bs 0, 0, [], 0⟩, 1, 0⟩ else if bs.length < 2 then badP 4 else parseK bs (dgt bs 0) (dgt bs 1) by rw [← HP.out]; unfold parseH; rw [if_neg (by omega)])
  have hn1 : 1 ≤ n := by omega
  obtain ⟨x, hx⟩ : ∃ x, x = dgt bs 0 := ⟨_, rfl⟩
  rw [← hx] at cx0 hx0 hx1 HP0
  clear hx
  replace cx0 := (hb1.cell (lt_of_cell cx0)).trans cx0
  go_upto_region 5 with (fail)
  generalize hW2_ : W1.setCell ⟨bh, 0, none⟩ (.int .i64 x) = W2
  have hb2 : Below w.heap.size w W2 := by rw [← hW2_]; exact hb1.setCell (p := ⟨bh, 0, none⟩) hhw _
  have bx2 := bx1.other (c := bh) (o := 0) hzh (.int .i64 x)
  have y2 := (y1.set (.int .i64 x)).1
  rw [hW2_] at bx2 y2
  clear hW2_
  clear zc0 zc1 zc2 zc3 zf0 zf1 zf2 zf3 yc0 yc1 yc2 yc3 yf0 yf1 yf2 yf3
  obtain ⟨⟨zc0, zc1, zc2, zc3⟩, zf0, zf1, zf2, zf3⟩ := bx2.at_
  obtain ⟨⟨yc0, yc1, yc2, yc3⟩, yf0, yf1, yf2, yf3⟩ := y2.at_
  clear cx0
  by_cases h1 : 1 ≤ x ∧ x ≤ 5
  · have HBO := Lib.hid (decide_eq_true h1)
    have HP1 := Lib.hid (HP0.out.trans (if_neg (by omega)))
    go_wp2_with (fail)
    refine (isOp_h x true _ HBO.out).mono ?_
    rintro e w2_ ⟨rfl, hw2_⟩
    obtain rfl := hw2_.symm
    clear hw2_
    have hx5 : x = 1 ∨ x = 2 ∨ x = 3 ∨ x = 4 ∨ x = 5 := by omega
    clear h1
    rcases hx5 with rfl | rfl | rfl | rfl | rfl
    · have HX := Lib.hid (HP1.out.trans (if_pos (by decide)))
      go_wp2_with (fail)
      refine (usesV_h 1 false _ rfl).mono ?_
      rintro e w2_ ⟨rfl, hw2_⟩
      obtain rfl := hw2_.symm
      clear hw2_
      go_wp2_with (fail)
      refine (usesR_h 1 false _ rfl).mono ?_
      rintro e w2_ ⟨rfl, hw2_⟩
      obtain rfl := hw2_.symm
      clear hw2_
      go_wp2_with (fail)
      refine (usesP_h 1 false _ rfl).mono ?_
      rintro e w2_ ⟨rfl, hw2_⟩
      obtain rfl := hw2_.symm
      clear hw2_
      go_wp2
      simp only [Exit.jump]
      generalize hWf : ((((W2.setCell ⟨bz, 0, none⟩ (.int .i64 1)).setCell ⟨bz, 1, none⟩ (.int .i64 0)).setCell ⟨bz, 2, none⟩ (.slice none 0 0)).setCell ⟨bz, 3, none⟩ (.int .i64 0)) = Wf
      obtain ⟨hbf, hof, r0, r1, r2, r3⟩ := fin4 bx2 hb2 hzw hWf
      clear hWf
      refine bodyPost_ret (v := .tuple #[.agg #[.int .i64 1, .int .i64 0, .slice none 0 0, .int .i64 0], .int .i64 1, .int .i64 0]) (by simp [results, Tryd.results37, go_sem, r0, r1, r2, r3]) rfl (givesH_none (n := 1) HX.out hbf)
    · have HX := Lib.hid (HP1.out.trans (if_pos (by decide)))
      go_wp2_with (fail)
      refine (usesV_h 2 false _ rfl).mono ?_
      rintro e w2_ ⟨rfl, hw2_⟩
      obtain rfl := hw2_.symm
      clear hw2_
      go_wp2_with (fail)
      refine (usesR_h 2 false _ rfl).mono ?_
      rintro e w2_ ⟨rfl, hw2_⟩
      obtain rfl := hw2_.symm
      clear hw2_
      go_wp2_with (fail)
      refine (usesP_h 2 false _ rfl).mono ?_
      rintro e w2_ ⟨rfl, hw2_⟩
      obtain rfl := hw2_.symm
      clear hw2_
      go_wp2
      simp only [Exit.jump]
      generalize hWf : ((((W2.setCell ⟨bz, 0, none⟩ (.int .i64 2)).setCell ⟨bz, 1, none⟩ (.int .i64 0)).setCell ⟨bz, 2, none⟩ (.slice none 0 0)).setCell ⟨bz, 3, none⟩ (.int .i64 0)) = Wf
      obtain ⟨hbf, hof, r0, r1, r2, r3⟩ := fin4 bx2 hb2 hzw hWf
      clear hWf
      refine bodyPost_ret (v := .tuple #[.agg #[.int .i64 2, .int .i64 0, .slice none 0 0, .int .i64 0], .int .i64 1, .int .i64 0]) (by simp [results, Tryd.results37, go_sem, r0, r1, r2, r3]) rfl (givesH_none (n := 1) HX.out hbf)
    · have HP2 := Lib.hid (HP1.out.trans (if_neg (by decide)))
      go_wp2_with (fail)
      refine (usesV_h 3 true _ rfl).mono ?_
      rintro e w2_ ⟨rfl, hw2_⟩
      obtain rfl := hw2_.symm
      clear hw2_
      by_cases hl2 : n < 2
      · have HX := Lib.hid (HP2.out.trans (if_pos (by rw [← HN.out]; exact hl2)))
        go_wp2
        go_step3
        refine ⟨rfl, HJ.out _ _ ?_⟩
        go_wp2
        try rw [Exit.noGoto_ret]
        generalize hWf : ((((W2.setCell ⟨bz, 0, none⟩ (.int .i64 0)).setCell ⟨bz, 1, none⟩ (.int .i64 0)).setCell ⟨bz, 2, none⟩ (.slice none 0 0)).setCell ⟨bz, 3, none⟩ (.int .i64 0)) = Wf
        obtain ⟨hbf, hof, r0, r1, r2, r3⟩ := fin4 bx2 hb2 hzw hWf
        clear hWf
        refine bodyPost_ret (v := .tuple #[.agg #[.int .i64 0, .int .i64 0, .slice none 0 0, .int .i64 0], .int .i64 0, .int .i64 4]) (by simp [results, Tryd.results37, go_sem, r0, r1, r2, r3]) rfl (givesH_bad HX.out hbf)
      have HP3 := Lib.hid (HP2.out.trans (if_neg (by rw [← HN.out]; exact hl2)))
      have hne2 : 1 < bs.length := by rw [← HN.out]; omega
      obtain ⟨b_, o_, ebo, cx1⟩ := sl_at hb hne2
      injection ebo with ebo
      injection ebo with eb1 eb2
      subst eb1 eb2
      replace cx1 := (hb2.cell (lt_of_cell cx1)).trans cx1
      obtain ⟨hk0, hk1⟩ := hU.at_ 1
      obtain ⟨k, hk⟩ : ∃ k, k = dgt bs 1 := ⟨_, rfl⟩
      rw [← hk] at cx1 hk0 hk1 HP3
      clear hk hne2
      have HP4 := Lib.hid (show P = if k < 3 ∨ 64 < k then badP 6 else ⟨⟨3, k, [], 0⟩, 2, 0⟩ by rw [HP3.out]; unfold parseK; rw [if_pos rfl])
      go_upto_region 11 with (fail)
      generalize hW2_ : W2.setCell ⟨bh, 1, none⟩ (.int .i64 k) = W3
      have hb3 : Below w.heap.size w W3 := by rw [← hW2_]; exact hb2.setCell (p := ⟨bh, 1, none⟩) hhw _
      have bx3 := bx2.other (c := bh) (o := 1) hzh (.int .i64 k)
      have y3 := (y2.set (.int .i64 k)).2.1
      rw [hW2_] at bx3 y3
      clear hW2_
      clear zc0 zc1 zc2 zc3 zf0 zf1 zf2 zf3 yc0 yc1 yc2 yc3 yf0 yf1 yf2 yf3
      obtain ⟨⟨zc0, zc1, zc2, zc3⟩, zf0, zf1, zf2, zf3⟩ := bx3.at_
      obtain ⟨⟨yc0, yc1, yc2, yc3⟩, yf0, yf1, yf2, yf3⟩ := y3.at_
      clear cx1
      by_cases hk3 : 3 ≤ k ∧ k ≤ 64
      · have HX := Lib.hid (HP4.out.trans (if_neg (by omega)))
        have HBk := Lib.hid (decide_eq_true hk3)
        clear hk3
        go_wp2_with (fail)
        refine (isPoly_h k true _ HBk.out).mono ?_
        rintro e w2_ ⟨rfl, hw2_⟩
        obtain rfl := hw2_.symm
        clear hw2_
        go_wp2_with (fail)
        refine (usesR_h 3 false _ rfl).mono ?_
        rintro e w2_ ⟨rfl, hw2_⟩
        obtain rfl := hw2_.symm
        clear hw2_
        go_wp2_with (fail)
        refine (usesP_h 3 false _ rfl).mono ?_
        rintro e w2_ ⟨rfl, hw2_⟩
        obtain rfl := hw2_.symm
        clear hw2_
        go_wp2
        simp only [Exit.jump]
        generalize hWf : ((((W3.setCell ⟨bz, 0, none⟩ (.int .i64 3)).setCell ⟨bz, 1, none⟩ (.int .i64 k)).setCell ⟨bz, 2, none⟩ (.slice none 0 0)).setCell ⟨bz, 3, none⟩ (.int .i64 0)) = Wf
        obtain ⟨hbf, hof, r0, r1, r2, r3⟩ := fin4 bx3 hb3 hzw hWf
        clear hWf
        refine bodyPost_ret (v := .tuple #[.agg #[.int .i64 3, .int .i64 k, .slice none 0 0, .int .i64 0], .int .i64 2, .int .i64 0]) (by simp [results, Tryd.results37, go_sem, r0, r1, r2, r3]) rfl (givesH_none (n := 2) HX.out hbf)
      · have HX := Lib.hid (HP4.out.trans (if_pos (by omega)))
        have HBk := Lib.hid (decide_eq_false hk3)
        clear hk3
        go_wp2_with (fail)
        refine (isPoly_h k false _ HBk.out).mono ?_
        rintro e w2_ ⟨rfl, hw2_⟩
        obtain rfl := hw2_.symm
        clear hw2_
        go_wp2
        simp only [Exit.jump]
        generalize hWf : ((((W3.setCell ⟨bz, 0, none⟩ (.int .i64 0)).setCell ⟨bz, 1, none⟩ (.int .i64 0)).setCell ⟨bz, 2, none⟩ (.slice none 0 0)).setCell ⟨bz, 3, none⟩ (.int .i64 0)) = Wf
        obtain ⟨hbf, hof, r0, r1, r2, r3⟩ := fin4 bx3 hb3 hzw hWf
        clear hWf
        refine bodyPost_ret (v := .tuple #[.agg #[.int .i64 0, .int .i64 0, .slice none 0 0, .int .i64 0], .int .i64 0, .int .i64 6]) (by simp [results, Tryd.results37, go_sem, r0, r1, r2, r3]) rfl (givesH_bad HX.out hbf)
    · have HP2 := Lib.hid (HP1.out.trans (if_neg (by decide)))
      go_wp2_with (fail)
      refine (usesV_h 4 false _ rfl).mono ?_
      rintro e w2_ ⟨rfl, hw2_⟩
      obtain rfl := hw2_.symm
      clear hw2_
      go_wp2_with (fail)
      refine (usesR_h 4 true _ rfl).mono ?_
      rintro e w2_ ⟨rfl, hw2_⟩
      obtain rfl := hw2_.symm
      clear hw2_
      by_cases hl2 : n < 2
      · have HX := Lib.hid (HP2.out.trans (if_pos (by rw [← HN.out]; exact hl2)))
        go_wp2
        go_step3
        refine ⟨rfl, HJ.out _ _ ?_⟩
        go_wp2
        try rw [Exit.noGoto_ret]
        generalize hWf : ((((W2.setCell ⟨bz, 0, none⟩ (.int .i64 0)).setCell ⟨bz, 1, none⟩ (.int .i64 0)).setCell ⟨bz, 2, none⟩ (.slice none 0 0)).setCell ⟨bz, 3, none⟩ (.int .i64 0)) = Wf
        obtain ⟨hbf, hof, r0, r1, r2, r3⟩ := fin4 bx2 hb2 hzw hWf
        clear hWf
        refine bodyPost_ret (v := .tuple #[.agg #[.int .i64 0, .int .i64 0, .slice none 0 0, .int .i64 0], .int .i64 0, .int .i64 4]) (by simp [results, Tryd.results37, go_sem, r0, r1, r2, r3]) rfl (givesH_bad HX.out hbf)
      have HP3 := Lib.hid (HP2.out.trans (if_neg (by rw [← HN.out]; exact hl2)))
      have hne2 : 1 < bs.length := by rw [← HN.out]; omega
      obtain ⟨b_, o_, ebo, cx1⟩ := sl_at hb hne2
      injection ebo with ebo
      injection ebo with eb1 eb2
      subst eb1 eb2
      replace cx1 := (hb2.cell (lt_of_cell cx1)).trans cx1
      obtain ⟨hk0, hk1⟩ := hU.at_ 1
      obtain ⟨k, hk⟩ : ∃ k, k = dgt bs 1 := ⟨_, rfl⟩
      rw [← hk] at cx1 hk0 hk1 HP3
      clear hk hne2
      have HP4 := Lib.hid (show P = if k < 1 ∨ 64 < k then badP 6 else parseR bs 4 k.toNat by rw [HP3.out]; unfold parseK; rw [if_neg (by decide)])
      by_cases hk3 : 1 ≤ k ∧ k ≤ 64
      · obtain ⟨m, rfl⟩ : ∃ m : Nat, k = m := ⟨k.toNat, by omega⟩
        have HP5 := Lib.hid (show P = if bs.length < 2 + m then badP 4 else if anyBad (ksOf bs m) = true then badP 7 else if (4 : Int) = 4 then ⟨⟨4, 0, ksOf bs m, 0⟩, 2 + m, 0⟩ else parseP bs m by rw [HP4.out, if_neg (by omega)]; rfl)
        have HBk := Lib.hid (decide_eq_true hk3)
        have hm1 : 1 ≤ m := by omega
        have hm64 : m ≤ 64 := by omega
        clear hk3
        go_wp2_with (fail)
        refine (isFence_h (m : Int) true _ HBk.out).mono ?_
        rintro e w2_ ⟨rfl, hw2_⟩
        obtain rfl := hw2_.symm
        clear hw2_
        by_cases hlm : n < 2 + m
        · have HX := Lib.hid (HP5.out.trans (if_pos (by rw [← HN.out]; exact hlm)))
          go_wp2
          go_step3
          refine ⟨rfl, HJ.out _ _ ?_⟩
          go_wp2
          try rw [Exit.noGoto_ret]
          generalize hWf : ((((W2.setCell ⟨bz, 0, none⟩ (.int .i64 0)).setCell ⟨bz, 1, none⟩ (.int .i64 0)).setCell ⟨bz, 2, none⟩ (.slice none 0 0)).setCell ⟨bz, 3, none⟩ (.int .i64 0)) = Wf
          obtain ⟨hbf, hof, r0, r1, r2, r3⟩ := fin4 bx2 hb2 hzw hWf
          clear hWf
          refine bodyPost_ret (v := .tuple #[.agg #[.int .i64 0, .int .i64 0, .slice none 0 0, .int .i64 0], .int .i64 0, .int .i64 4]) (by simp [results, Tryd.results37, go_sem, r0, r1, r2, r3]) rfl (givesH_bad HX.out hbf)
        have HP6 := Lib.hid (HP5.out.trans (if_neg (by rw [← HN.out]; exact hlm)))
        have hlen2 : 2 + m ≤ bs.length := by rw [← HN.out]; omega
        have hbs : SlR W2 S .u8 (some ⟨b, o + 2, none⟩) ((bs.drop 2).take m) := (hb.next hb2).sub_ 2 m hlen2
        have HKN := Lib.hid (show m = ((bs.drop 2).take m).length by simp; omega)
        have hub : UB ((bs.drop 2).take m) := fun x_ hx_ => hU x_ (List.mem_of_mem_drop (List.mem_of_mem_take hx_))
        have HKS := Lib.hid (ksOf_len hlen2)
        obtain ⟨ks, hks⟩ : ∃ ks, ((bs.drop 2).take m).map rgOf = ks := ⟨_, rfl⟩
        have HKO := Lib.hid (show ksOf bs m = ks from hks)
        have HK1 := Lib.hid hks
        rw [HKO.out] at HP6 HKS
        have hvs : ∀ r_ ∈ ks.map rg0, Go.Proofs.YtcfdpimpleniaaaDoor.S r_.v := by
          intro r_ hr_
          rw [← hks] at hr_
          obtain ⟨k_, hk_, rfl⟩ := List.mem_map.1 hr_
          obtain ⟨x_, hx_, rfl⟩ := List.mem_map.1 hk_
          have := hub x_ hx_
          show Go.Proofs.YtcfdpimpleniaaaDoor.S (x_ % 128)
          unfold Go.Proofs.YtcfdpimpleniaaaDoor.S; omega
        clear hks
        go_wp2_with (fail)
        refine (regionsOf_h (some ⟨b, o + 2, none⟩) m (c - 2) _ _ W2 hbs HKN.out hub hm64).mono ?_
        rintro e w3 ⟨gr, rfl, hrow3, hbr3⟩
        rw [HK1.out] at hrow3
        have hgr := (World.ownsRow.lt hrow3 gr rfl).1
        have bx3 := bx2.next hbr3 bx2.lt
        have y3 := y2.next hbr3 y2.lt
        have hb3 := hb2.trans (hbr3.mono hb2.size)
        have hyr : gr ≠ bh := fun e_ => by have := y2.lt; omega
        have hzr : gr ≠ bz := fun e_ => by have := bx2.lt; omega
        obtain ⟨base, hbase⟩ : ∃ base, base = W2.heap.size := ⟨_, rfl⟩
        rw [← hbase] at hrow3
        have hbase3 : w.heap.size ≤ base := by rw [hbase]; exact hb2.size
        clear hbase hgr hbr3 hbs cx1
        clear zc0 zc1 zc2 zc3 zf0 zf1 zf2 zf3 yc0 yc1 yc2 yc3 yf0 yf1 yf2 yf3
        obtain ⟨⟨zc0, zc1, zc2, zc3⟩, zf0, zf1, zf2, zf3⟩ := bx3.at_
        obtain ⟨⟨yc0, yc1, yc2, yc3⟩, yf0, yf1, yf2, yf3⟩ := y3.at_
        go_upto_region 22 with (fail)
        generalize hW2_ : w3.setCell ⟨bh, 2, none⟩ (.slice (some ⟨gr, 0, none⟩) m m) = W4
        have hrow4 := row_keep (w' := W4) hrow3 fun g_ hg_ => by rw [← hW2_]; exact Below.heap_setCell _ _ _ _ (fun e_ => hyr (by injection hg_ with hg_; exact hg_.trans e_))
        have hb4 : Below w.heap.size w W4 := by rw [← hW2_]; exact hb3.setCell (p := ⟨bh, 2, none⟩) hhw _
        have bx4 := bx3.other (c := bh) (o := 2) hzh (.slice (some ⟨gr, 0, none⟩) m m)
        have y4 := (y3.set (.slice (some ⟨gr, 0, none⟩) m m)).2.2.1
        rw [hW2_] at bx4 y4
        clear hW2_
        clear zc0 zc1 zc2 zc3 zf0 zf1 zf2 zf3 yc0 yc1 yc2 yc3 yf0 yf1 yf2 yf3
        obtain ⟨⟨zc0, zc1, zc2, zc3⟩, zf0, zf1, zf2, zf3⟩ := bx4.at_
        obtain ⟨⟨yc0, yc1, yc2, yc3⟩, yf0, yf1, yf2, yf3⟩ := y4.at_
        have hrr : RowR W4 (fun g_ => base ≤ g_) 3 rgC (some ⟨gr, 0, none⟩) (ks.map rg0) := by
          have hm2 : m = (ks.map rg0).length := by rw [List.length_map, HKS.out]
          have h_ := hrow4
          rw [hm2] at h_
          obtain ⟨A_, c_, e_, _, _, hrow_, _⟩ := own_rowR (C := rgC) (fun _ => rfl) h_
          injection e_ with e1_ e2_ e3_
          subst e1_
          exact hrow_.imp fun g_ hg_ => (World.ownsRow.lt h_ g_ hg_).1
        have HML := Lib.hid (show m = (ks.map rg0).length by rw [List.length_map, HKS.out])
        obtain ⟨ba, hba⟩ : ∃ ba, (!anyBad ks) = ba := ⟨_, rfl⟩
        have HBA := Lib.hid (show (!anyBad ((ks.map rg0).map rgK)) = ba by rw [rg0_key]; exact hba)
        have HBB := Lib.hid hba
        clear hba
        go_wp2_with (fail)
        refine (areRegs_h _ m m (ks.map rg0) ba _ W4 hrr hvs HML.out (by omega) HBA.out).mono ?_
        rintro e w5 ⟨rfl, hbr5⟩
        have bx5 := bx4.next hbr5 bx4.lt
        have y5 := y4.next hbr5 y4.lt
        have hb5 := hb4.trans (hbr5.mono hb4.size)
        have hrow5 := row_keep hrow4 (fun g_ hg_ => hbr5.block g_ (World.ownsRow.lt hrow4 g_ hg_).2)
        clear zc0 zc1 zc2 zc3 zf0 zf1 zf2 zf3 yc0 yc1 yc2 yc3 yf0 yf1 yf2 yf3
        clear hrr hrow4 hrow3 hbr5
        obtain ⟨⟨zc0, zc1, zc2, zc3⟩, zf0, zf1, zf2, zf3⟩ := bx5.at_
        obtain ⟨⟨yc0, yc1, yc2, yc3⟩, yf0, yf1, yf2, yf3⟩ := y5.at_
        cases ba
        · have HX := Lib.hid (HP6.out.trans (if_pos (by have := HBB.out; simpa using this)))
          go_wp2
          simp only [Exit.jump]
          generalize hWf : ((((w5.setCell ⟨bz, 0, none⟩ (.int .i64 0)).setCell ⟨bz, 1, none⟩ (.int .i64 0)).setCell ⟨bz, 2, none⟩ (.slice none 0 0)).setCell ⟨bz, 3, none⟩ (.int .i64 0)) = Wf
          obtain ⟨hbf, hof, r0, r1, r2, r3⟩ := fin4 bx5 hb5 hzw hWf
          clear hWf
          refine bodyPost_ret (v := .tuple #[.agg #[.int .i64 0, .int .i64 0, .slice none 0 0, .int .i64 0], .int .i64 0, .int .i64 7]) (by simp [results, Tryd.results37, go_sem, r0, r1, r2, r3]) rfl (givesH_bad HX.out hbf)
        · have HP7 := Lib.hid (HP6.out.trans (if_neg (by have := HBB.out; simpa using this)))
          have HX := Lib.hid (show P = ⟨⟨4, 0, ks, 0⟩, 2 + m, 0⟩ by rw [HP7.out, if_pos (by decide)])
          go_wp2_with (fail)
          refine (usesP_h 4 false _ rfl).mono ?_
          rintro e w2_ ⟨rfl, hw2_⟩
          obtain rfl := hw2_.symm
          clear hw2_
          go_wp2
          simp only [Exit.jump]
          generalize hWf : ((((w5.setCell ⟨bz, 0, none⟩ (.int .i64 4)).setCell ⟨bz, 1, none⟩ (.int .i64 0)).setCell ⟨bz, 2, none⟩ (.slice (some ⟨gr, 0, none⟩) m m)).setCell ⟨bz, 3, none⟩ (.int .i64 0)) = Wf
          obtain ⟨hbf, hof, r0, r1, r2, r3⟩ := fin4 bx5 hb5 hzw hWf
          clear hWf
          refine bodyPost_ret (v := .tuple #[.agg #[.int .i64 4, .int .i64 0, .slice (some ⟨gr, 0, none⟩) m m, .int .i64 0], .int .i64 (2 + m), .int .i64 0]) (by simp [results, Tryd.results37, go_sem, r0, r1, r2, r3]) rfl (givesH_row HX.out hbf (row_keep hrow5 (fun g_ hg_ => hof g_ (fun e_ => hzr (by injection hg_ with hg_; exact hg_.trans e_)))) HKS.out.symm hbase3 (by omega))
      · have HX := Lib.hid (HP4.out.trans (if_pos (by omega)))
        have HBk := Lib.hid (decide_eq_false hk3)
        clear hk3
        go_wp2_with (fail)
        refine (isFence_h k false _ HBk.out).mono ?_
        rintro e w2_ ⟨rfl, hw2_⟩
        obtain rfl := hw2_.symm
        clear hw2_
        go_wp2
        simp only [Exit.jump]
        generalize hWf : ((((W2.setCell ⟨bz, 0, none⟩ (.int .i64 0)).setCell ⟨bz, 1, none⟩ (.int .i64 0)).setCell ⟨bz, 2, none⟩ (.slice none 0 0)).setCell ⟨bz, 3, none⟩ (.int .i64 0)) = Wf
        obtain ⟨hbf, hof, r0, r1, r2, r3⟩ := fin4 bx2 hb2 hzw hWf
        clear hWf
        refine bodyPost_ret (v := .tuple #[.agg #[.int .i64 0, .int .i64 0, .slice none 0 0, .int .i64 0], .int .i64 0, .int .i64 6]) (by simp [results, Tryd.results37, go_sem, r0, r1, r2, r3]) rfl (givesH_bad HX.out hbf)
    · have HP2 := Lib.hid (HP1.out.trans (if_neg (by decide)))
      go_wp2_with (fail)
      refine (usesV_h 5 false _ rfl).mono ?_
      rintro e w2_ ⟨rfl, hw2_⟩
      obtain rfl := hw2_.symm
      clear hw2_
      go_wp2_with (fail)
      refine (usesR_h 5 true _ rfl).mono ?_
      rintro e w2_ ⟨rfl, hw2_⟩
      obtain rfl := hw2_.symm
      clear hw2_
      by_cases hl2 : n < 2
      · have HX := Lib.hid (HP2.out.trans (if_pos (by rw [← HN.out]; exact hl2)))
        go_wp2
        go_step3
        refine ⟨rfl, HJ.out _ _ ?_⟩
        go_wp2
        try rw [Exit.noGoto_ret]
        generalize hWf : ((((W2.setCell ⟨bz, 0, none⟩ (.int .i64 0)).setCell ⟨bz, 1, none⟩ (.int .i64 0)).setCell ⟨bz, 2, none⟩ (.slice none 0 0)).setCell ⟨bz, 3, none⟩ (.int .i64 0)) = Wf
        obtain ⟨hbf, hof, r0, r1, r2, r3⟩ := fin4 bx2 hb2 hzw hWf
        clear hWf
        refine bodyPost_ret (v := .tuple #[.agg #[.int .i64 0, .int .i64 0, .slice none 0 0, .int .i64 0], .int .i64 0, .int .i64 4]) (by simp [results, Tryd.results37, go_sem, r0, r1, r2, r3]) rfl (givesH_bad HX.out hbf)
      have HP3 := Lib.hid (HP2.out.trans (if_neg (by rw [← HN.out]; exact hl2)))
      have hne2 : 1 < bs.length := by rw [← HN.out]; omega
      obtain ⟨b_, o_, ebo, cx1⟩ := sl_at hb hne2
      injection ebo with ebo
      injection ebo with eb1 eb2
      subst eb1 eb2
      replace cx1 := (hb2.cell (lt_of_cell cx1)).trans cx1
      obtain ⟨hk0, hk1⟩ := hU.at_ 1
      obtain ⟨k, hk⟩ : ∃ k, k = dgt bs 1 := ⟨_, rfl⟩
      rw [← hk] at cx1 hk0 hk1 HP3
      clear hk hne2
      have HP4 := Lib.hid (show P = if k < 1 ∨ 64 < k then badP 6 else parseR bs 5 k.toNat by rw [HP3.out]; unfold parseK; rw [if_neg (by decide)])
      by_cases hk3 : 1 ≤ k ∧ k ≤ 64
      · obtain ⟨m, rfl⟩ : ∃ m : Nat, k = m := ⟨k.toNat, by omega⟩
        have HP5 := Lib.hid (show P = if bs.length < 2 + m then badP 4 else if anyBad (ksOf bs m) = true then badP 7 else if (5 : Int) = 4 then ⟨⟨4, 0, ksOf bs m, 0⟩, 2 + m, 0⟩ else parseP bs m by rw [HP4.out, if_neg (by omega)]; rfl)
        have HBk := Lib.hid (decide_eq_true hk3)
        have hm1 : 1 ≤ m := by omega
        have hm64 : m ≤ 64 := by omega
        clear hk3
        go_wp2_with (fail)
        refine (isFence_h (m : Int) true _ HBk.out).mono ?_
        rintro e w2_ ⟨rfl, hw2_⟩
        obtain rfl := hw2_.symm
        clear hw2_
        by_cases hlm : n < 2 + m
        · have HX := Lib.hid (HP5.out.trans (if_pos (by rw [← HN.out]; exact hlm)))
          go_wp2
          go_step3
          refine ⟨rfl, HJ.out _ _ ?_⟩
          go_wp2
          try rw [Exit.noGoto_ret]
          generalize hWf : ((((W2.setCell ⟨bz, 0, none⟩ (.int .i64 0)).setCell ⟨bz, 1, none⟩ (.int .i64 0)).setCell ⟨bz, 2, none⟩ (.slice none 0 0)).setCell ⟨bz, 3, none⟩ (.int .i64 0)) = Wf
          obtain ⟨hbf, hof, r0, r1, r2, r3⟩ := fin4 bx2 hb2 hzw hWf
          clear hWf
          refine bodyPost_ret (v := .tuple #[.agg #[.int .i64 0, .int .i64 0, .slice none 0 0, .int .i64 0], .int .i64 0, .int .i64 4]) (by simp [results, Tryd.results37, go_sem, r0, r1, r2, r3]) rfl (givesH_bad HX.out hbf)
        have HP6 := Lib.hid (HP5.out.trans (if_neg (by rw [← HN.out]; exact hlm)))
        have hlen2 : 2 + m ≤ bs.length := by rw [← HN.out]; omega
        have hbs : SlR W2 S .u8 (some ⟨b, o + 2, none⟩) ((bs.drop 2).take m) := (hb.next hb2).sub_ 2 m hlen2
        have HKN := Lib.hid (show m = ((bs.drop 2).take m).length by simp; omega)
        have hub : UB ((bs.drop 2).take m) := fun x_ hx_ => hU x_ (List.mem_of_mem_drop (List.mem_of_mem_take hx_))
        have HKS := Lib.hid (ksOf_len hlen2)
        obtain ⟨ks, hks⟩ : ∃ ks, ((bs.drop 2).take m).map rgOf = ks := ⟨_, rfl⟩
        have HKO := Lib.hid (show ksOf bs m = ks from hks)
        have HK1 := Lib.hid hks
        rw [HKO.out] at HP6 HKS
        have hvs : ∀ r_ ∈ ks.map rg0, Go.Proofs.YtcfdpimpleniaaaDoor.S r_.v := by
          intro r_ hr_
          rw [← hks] at hr_
          obtain ⟨k_, hk_, rfl⟩ := List.mem_map.1 hr_
          obtain ⟨x_, hx_, rfl⟩ := List.mem_map.1 hk_
          have := hub x_ hx_
          show Go.Proofs.YtcfdpimpleniaaaDoor.S (x_ % 128)
          unfold Go.Proofs.YtcfdpimpleniaaaDoor.S; omega
        clear hks
        go_wp2_with (fail)
        refine (regionsOf_h (some ⟨b, o + 2, none⟩) m (c - 2) _ _ W2 hbs HKN.out hub hm64).mono ?_
        rintro e w3 ⟨gr, rfl, hrow3, hbr3⟩
        rw [HK1.out] at hrow3
        have hgr := (World.ownsRow.lt hrow3 gr rfl).1
        have bx3 := bx2.next hbr3 bx2.lt
        have y3 := y2.next hbr3 y2.lt
        have hb3 := hb2.trans (hbr3.mono hb2.size)
        have hyr : gr ≠ bh := fun e_ => by have := y2.lt; omega
        have hzr : gr ≠ bz := fun e_ => by have := bx2.lt; omega
        obtain ⟨base, hbase⟩ : ∃ base, base = W2.heap.size := ⟨_, rfl⟩
        rw [← hbase] at hrow3
        have hbase3 : w.heap.size ≤ base := by rw [hbase]; exact hb2.size
        clear hbase hgr hbr3 hbs cx1
        clear zc0 zc1 zc2 zc3 zf0 zf1 zf2 zf3 yc0 yc1 yc2 yc3 yf0 yf1 yf2 yf3
        obtain ⟨⟨zc0, zc1, zc2, zc3⟩, zf0, zf1, zf2, zf3⟩ := bx3.at_
        obtain ⟨⟨yc0, yc1, yc2, yc3⟩, yf0, yf1, yf2, yf3⟩ := y3.at_
        go_upto_region 22 with (fail)
        generalize hW2_ : w3.setCell ⟨bh, 2, none⟩ (.slice (some ⟨gr, 0, none⟩) m m) = W4
        have hrow4 := row_keep (w' := W4) hrow3 fun g_ hg_ => by rw [← hW2_]; exact Below.heap_setCell _ _ _ _ (fun e_ => hyr (by injection hg_ with hg_; exact hg_.trans e_))
        have hb4 : Below w.heap.size w W4 := by rw [← hW2_]; exact hb3.setCell (p := ⟨bh, 2, none⟩) hhw _
        have bx4 := bx3.other (c := bh) (o := 2) hzh (.slice (some ⟨gr, 0, none⟩) m m)
        have y4 := (y3.set (.slice (some ⟨gr, 0, none⟩) m m)).2.2.1
        rw [hW2_] at bx4 y4
        clear hW2_
        clear zc0 zc1 zc2 zc3 zf0 zf1 zf2 zf3 yc0 yc1 yc2 yc3 yf0 yf1 yf2 yf3
        obtain ⟨⟨zc0, zc1, zc2, zc3⟩, zf0, zf1, zf2, zf3⟩ := bx4.at_
        obtain ⟨⟨yc0, yc1, yc2, yc3⟩, yf0, yf1, yf2, yf3⟩ := y4.at_
        have hrr : RowR W4 (fun g_ => base ≤ g_) 3 rgC (some ⟨gr, 0, none⟩) (ks.map rg0) := by
          have hm2 : m = (ks.map rg0).length := by rw [List.length_map, HKS.out]
          have h_ := hrow4
          rw [hm2] at h_
          obtain ⟨A_, c_, e_, _, _, hrow_, _⟩ := own_rowR (C := rgC) (fun _ => rfl) h_
          injection e_ with e1_ e2_ e3_
          subst e1_
          exact hrow_.imp fun g_ hg_ => (World.ownsRow.lt h_ g_ hg_).1
        have HML := Lib.hid (show m = (ks.map rg0).length by rw [List.length_map, HKS.out])
        obtain ⟨ba, hba⟩ : ∃ ba, (!anyBad ks) = ba := ⟨_, rfl⟩
        have HBA := Lib.hid (show (!anyBad ((ks.map rg0).map rgK)) = ba by rw [rg0_key]; exact hba)
        have HBB := Lib.hid hba
        clear hba
        go_wp2_with (fail)
        refine (areRegs_h _ m m (ks.map rg0) ba _ W4 hrr hvs HML.out (by omega) HBA.out).mono ?_
        rintro e w5 ⟨rfl, hbr5⟩
        have bx5 := bx4.next hbr5 bx4.lt
        have y5 := y4.next hbr5 y4.lt
        have hb5 := hb4.trans (hbr5.mono hb4.size)
        have hrow5 := row_keep hrow4 (fun g_ hg_ => hbr5.block g_ (World.ownsRow.lt hrow4 g_ hg_).2)
        clear zc0 zc1 zc2 zc3 zf0 zf1 zf2 zf3 yc0 yc1 yc2 yc3 yf0 yf1 yf2 yf3
        clear hrr hrow4 hrow3 hbr5
        obtain ⟨⟨zc0, zc1, zc2, zc3⟩, zf0, zf1, zf2, zf3⟩ := bx5.at_
        obtain ⟨⟨yc0, yc1, yc2, yc3⟩, yf0, yf1, yf2, yf3⟩ := y5.at_
        cases ba
        · have HX := Lib.hid (HP6.out.trans (if_pos (by have := HBB.out; simpa using this)))
          go_wp2
          simp only [Exit.jump]
          generalize hWf : ((((w5.setCell ⟨bz, 0, none⟩ (.int .i64 0)).setCell ⟨bz, 1, none⟩ (.int .i64 0)).setCell ⟨bz, 2, none⟩ (.slice none 0 0)).setCell ⟨bz, 3, none⟩ (.int .i64 0)) = Wf
          obtain ⟨hbf, hof, r0, r1, r2, r3⟩ := fin4 bx5 hb5 hzw hWf
          clear hWf
          refine bodyPost_ret (v := .tuple #[.agg #[.int .i64 0, .int .i64 0, .slice none 0 0, .int .i64 0], .int .i64 0, .int .i64 7]) (by simp [results, Tryd.results37, go_sem, r0, r1, r2, r3]) rfl (givesH_bad HX.out hbf)
        · have HP7 := Lib.hid (HP6.out.trans (if_neg (by have := HBB.out; simpa using this)))
          have HP8 := Lib.hid (show P = if bs.length < 4 + m then badP 4 else if ptsOf bs m < 1 ∨ 4096 < ptsOf bs m then badP 6 else ⟨⟨5, 0, ks, ptsOf bs m⟩, 4 + m, 0⟩ by rw [HP7.out, if_neg (by decide)]; unfold parseP; rw [HKO.out])
          go_wp2_with (fail)
          refine (usesP_h 5 true _ rfl).mono ?_
          rintro e w2_ ⟨rfl, hw2_⟩
          obtain rfl := hw2_.symm
          clear hw2_
          go_upto_region 26 with (fail)
          rw [show (2 : Int) + m + 2 = ((4 + m : Nat) : Int) by omega]
          by_cases hl4 : n < 4 + m
          · have HX := Lib.hid (HP8.out.trans (if_pos (by rw [← HN.out]; exact hl4)))
            go_wp2
            go_step3
            refine ⟨rfl, HJ.out _ _ ?_⟩
            go_wp2
            try rw [Exit.noGoto_ret]
            generalize hWf : ((((w5.setCell ⟨bz, 0, none⟩ (.int .i64 0)).setCell ⟨bz, 1, none⟩ (.int .i64 0)).setCell ⟨bz, 2, none⟩ (.slice none 0 0)).setCell ⟨bz, 3, none⟩ (.int .i64 0)) = Wf
            obtain ⟨hbf, hof, r0, r1, r2, r3⟩ := fin4 bx5 hb5 hzw hWf
            clear hWf
            refine bodyPost_ret (v := .tuple #[.agg #[.int .i64 0, .int .i64 0, .slice none 0 0, .int .i64 0], .int .i64 0, .int .i64 4]) (by simp [results, Tryd.results37, go_sem, r0, r1, r2, r3]) rfl (givesH_bad HX.out hbf)
          have HP9 := Lib.hid (HP8.out.trans (if_neg (by rw [← HN.out]; exact hl4)))
          have hjl : 2 + m < bs.length := by rw [← HN.out]; omega
          have hjl3 : 3 + m < bs.length := by rw [← HN.out]; omega
          obtain ⟨b_, o_, ebo, cx⟩ := sl_at (hb.next hb5) hjl
          injection ebo with ebo
          injection ebo with eb1 eb2
          subst eb1 eb2
          obtain ⟨b_, o_, ebo, cy⟩ := sl_at (hb.next hb5) hjl3
          injection ebo with ebo
          injection ebo with eb1 eb2
          subst eb1 eb2
          obtain ⟨hy0, hy1⟩ := hU.at_ (2 + m)
          obtain ⟨hy2, hy3⟩ := hU.at_ (3 + m)
          rw [show ptsOf bs m = dgt bs (2 + m) + dgt bs (3 + m) * 256 by unfold ptsOf; omega] at HP9
          generalize dgt bs (2 + m) = y1_ at *
          generalize dgt bs (3 + m) = y2_ at *
          have hl4n : 4 + m ≤ n := by omega
          clear hjl hjl3 hlen2
          go_upto_region 27 with (fail)
          refine dir_plain (by kernel_rfl) 15 [[], [], [(92, 1)], [(91, 0), (93, 2)], [(94, 3)], [(95, 4)], [], [], [(98, 7)], [(97, 6), (99, 8)], [(100, 9)], [(101, 10)], [(102, 11)], [(96, 5), (103, 12)], [], [(104, 13), (105, 14)]] [(91, 0), (92, 1), (93, 2), (94, 3), (95, 4), (96, 5), (97, 6), (98, 7), (99, 8), (100, 9), (101, 10), (102, 11), (103, 12), (104, 13), (105, 14)] [
              (fun z_ _ => z_ = .slice (some ⟨b, o, none⟩) n c),
              (fun z_ _ => z_ = .int .i64 ((4 + m : Nat) : Int)),
              (fun z_ _ => z_ = .int .i64 ((2 + m : Nat) : Int)),
              (fun z_ _ => z_ = .pointer (some ⟨b, o + (2 + m), none⟩)),
              (fun z_ _ => z_ = .int .u8 y1_),
              (fun z_ _ => z_ = .int .i64 y1_),
              (fun z_ _ => z_ = .slice (some ⟨b, o, none⟩) n c),
              (fun z_ _ => z_ = .int .i64 ((4 + m : Nat) : Int)),
              (fun z_ _ => z_ = .int .i64 ((3 + m : Nat) : Int)),
              (fun z_ _ => z_ = .pointer (some ⟨b, o + (3 + m), none⟩)),
              (fun z_ _ => z_ = .int .u8 y2_),
              (fun z_ _ => z_ = .int .i64 y2_),
              (fun z_ _ => z_ = .int .i64 (y2_ * 256)),
              (fun z_ _ => z_ = .int .i64 (y1_ + y2_ * 256)),
              (fun z_ _ => z_ = .pointer (some ⟨bh, 3, none⟩))
            ] (by kernel_rfl) (by kernel_rfl) (by kernel_rfl) (by decide) ⟨dstab_eq, dstab_eq, dstab_eq, dstab_eq, dstab_eq, dstab_eq, dstab_eq, dstab_eq, dstab_eq, dstab_eq, dstab_eq, dstab_eq, dstab_eq, dstab_eq, dstab_eq, trivial⟩ ?steps ?fin
          case steps =>
            refine ⟨?_, ?_, ?_, ?_, ?_, ?_, ?_, ?_, ?_, ?_, ?_, ?_, ?_, ?_, ?_, trivial⟩
            · intro vs g w2 hI hF hR K hK
              simp only [Facts, fill, Act.put, z1, z2, z3, z4, z5, Nat.reduceAdd] at hF hR hK ⊢
              go_simp
              exact hK _ () _ hI (Below.refl _ _) rfl
            · intro vs g w2 hI hF hR K hK
              simp only [Facts, fill, Act.put, z1, z2, z3, z4, z5, Nat.reduceAdd] at hF hR hK ⊢
              go_simp
              exact hK _ () _ hI (Below.refl _ _) rfl
            · intro vs g w2 hI hF hR K hK
              simp only [Facts, fill, Act.put, z1, z2, z3, z4, z5, Nat.reduceAdd] at hF hR hK ⊢
              obtain ⟨r1, -⟩ := hR
              generalize vs 1 = x1 at *
              subst r1
              go_simp
              exact hK _ () _ hI (Below.refl _ _) (by rw [wrap_i64' (by omega) (by omega)]; congr 1; omega)
            · intro vs g w2 hI hF hR K hK
              simp only [Facts, fill, Act.put, z1, z2, z3, z4, z5, Nat.reduceAdd] at hF hR hK ⊢
              obtain ⟨r0, r2, -⟩ := hR
              generalize vs 0 = x0, vs 2 = x2 at *
              subst r0 r2
              go_simp
              rw [if_pos (show 0 ≤ 2 + (m : Int) ∧ 2 + (m : Int) < n by omega), show (2 + (m : Int)).toNat = 2 + m by omega]
              exact hK _ () _ hI (Below.refl _ _) rfl
            · intro vs g w2 hI hF hR K hK
              simp only [Facts, fill, Act.put, z1, z2, z3, z4, z5, Nat.reduceAdd] at hF hR hK ⊢
              obtain ⟨r3, -⟩ := hR
              generalize vs 3 = x3 at *
              subst r3
              have k0 := (hI.cell (lt_of_cell cx)).trans cx
              go_simp
              exact hK _ () _ hI (Below.refl _ _) rfl
            · intro vs g w2 hI hF hR K hK
              simp only [Facts, fill, Act.put, z1, z2, z3, z4, z5, Nat.reduceAdd] at hF hR hK ⊢
              obtain ⟨r4, -⟩ := hR
              generalize vs 4 = x4 at *
              subst r4
              go_simp
              rw [wrap_i64' (by omega) (by omega)]
              exact hK _ () _ hI (Below.refl _ _) rfl
            · intro vs g w2 hI hF hR K hK
              simp only [Facts, fill, Act.put, z1, z2, z3, z4, z5, Nat.reduceAdd] at hF hR hK ⊢
              go_simp
              exact hK _ () _ hI (Below.refl _ _) rfl
            · intro vs g w2 hI hF hR K hK
              simp only [Facts, fill, Act.put, z1, z2, z3, z4, z5, Nat.reduceAdd] at hF hR hK ⊢
              go_simp
              exact hK _ () _ hI (Below.refl _ _) rfl
            · intro vs g w2 hI hF hR K hK
              simp only [Facts, fill, Act.put, z1, z2, z3, z4, z5, Nat.reduceAdd] at hF hR hK ⊢
              obtain ⟨r7, -⟩ := hR
              generalize vs 7 = x7 at *
              subst r7
              go_simp
              exact hK _ () _ hI (Below.refl _ _) (by rw [wrap_i64' (by omega) (by omega)]; congr 1; omega)
            · intro vs g w2 hI hF hR K hK
              simp only [Facts, fill, Act.put, z1, z2, z3, z4, z5, Nat.reduceAdd] at hF hR hK ⊢
              obtain ⟨r6, r8, -⟩ := hR
              generalize vs 6 = x6, vs 8 = x8 at *
              subst r6 r8
              go_simp
              rw [if_pos (show 0 ≤ 3 + (m : Int) ∧ 3 + (m : Int) < n by omega), show (3 + (m : Int)).toNat = 3 + m by omega]
              exact hK _ () _ hI (Below.refl _ _) rfl
            · intro vs g w2 hI hF hR K hK
              simp only [Facts, fill, Act.put, z1, z2, z3, z4, z5, Nat.reduceAdd] at hF hR hK ⊢
              obtain ⟨r9, -⟩ := hR
              generalize vs 9 = x9 at *
              subst r9
              have k0 := (hI.cell (lt_of_cell cy)).trans cy
              go_simp
              exact hK _ () _ hI (Below.refl _ _) rfl
            · intro vs g w2 hI hF hR K hK
              simp only [Facts, fill, Act.put, z1, z2, z3, z4, z5, Nat.reduceAdd] at hF hR hK ⊢
              obtain ⟨r10, -⟩ := hR
              generalize vs 10 = x10 at *
              subst r10
              go_simp
              rw [wrap_i64' (by omega) (by omega)]
              exact hK _ () _ hI (Below.refl _ _) rfl
            · intro vs g w2 hI hF hR K hK
              simp only [Facts, fill, Act.put, z1, z2, z3, z4, z5, Nat.reduceAdd] at hF hR hK ⊢
              obtain ⟨r11, -⟩ := hR
              generalize vs 11 = x11 at *
              subst r11
              go_simp
              rw [wrap_i64' (by omega) (by omega)]
              exact hK _ () _ hI (Below.refl _ _) rfl
            · intro vs g w2 hI hF hR K hK
              simp only [Facts, fill, Act.put, z1, z2, z3, z4, z5, Nat.reduceAdd] at hF hR hK ⊢
              obtain ⟨r5, r12, -⟩ := hR
              generalize vs 5 = x5, vs 12 = x12 at *
              subst r5 r12
              go_simp
              rw [wrap_i64' (by omega) (by omega)]
              exact hK _ () _ hI (Below.refl _ _) rfl
            · intro vs g w2 hI hF hR K hK
              simp only [Facts, fill, Act.put, z1, z2, z3, z4, z5, Nat.reduceAdd] at hF hR hK ⊢
              go_simp
              exact hK _ () _ hI (Below.refl _ _) rfl
          case fin =>
            intro vs w2 hI hR
            have r13 := hR 13 (by decide)
            have r14 := hR 14 (by decide)
            simp only [fill, Act.put, z1, z2, z3, z4, z5] at r13 r14 ⊢
            clear hR
            generalize vs 13 = x13 at *
            generalize vs 14 = x14 at *
            subst r13 r14
            have q2 : Below w.heap.size w w2 := hb5.trans (hI.mono hb5.size)
            have zb2 := bx5.next hI bx5.lt
            have yb2 := y5.next hI y5.lt
            have hrow2 := row_keep hrow5 (fun g_ hg_ => hI.block g_ (World.ownsRow.lt hrow5 g_ hg_).2)
            clear zc0 zc1 zc2 zc3 zf0 zf1 zf2 zf3 yc0 yc1 yc2 yc3 yf0 yf1 yf2 yf3
            obtain ⟨⟨yc0, yc1, yc2, yc3⟩, yf0, yf1, yf2, yf3⟩ := yb2.at_
            refine wpOps_step rfl rfl ?_
            go_simp
            generalize hWh : w2.setCell ⟨bh, 3, none⟩ (.int .i64 (y1_ + y2_ * 256)) = Wh
            have q3 : Below w.heap.size w Wh := by rw [← hWh]; exact q2.setCell (p := ⟨bh, 3, none⟩) hhw _
            have zb3 := zb2.other (c := bh) (o := 3) hzh (.int .i64 (y1_ + y2_ * 256))
            have yb3 := (yb2.set (.int .i64 (y1_ + y2_ * 256))).2.2.2
            rw [hWh] at zb3 yb3
            have hrow3 := row_keep (w' := Wh) hrow2 fun g_ hg_ => by rw [← hWh]; exact Below.heap_setCell _ _ _ _ (fun e_ => hyr (by injection hg_ with hg_; exact hg_.trans e_))
            clear hWh yc0 yc1 yc2 yc3 yf0 yf1 yf2 yf3 hI
            obtain ⟨⟨yc0, yc1, yc2, yc3⟩, yf0, yf1, yf2, yf3⟩ := yb3.at_
            obtain ⟨⟨zc0, zc1, zc2, zc3⟩, zf0, zf1, zf2, zf3⟩ := zb3.at_
            clear cx cy
            refine NoPanic.normal ?_
            obtain ⟨pt, hpt⟩ : ∃ pt, (y1_ + y2_ * 256) = pt := ⟨_, rfl⟩
            rw [hpt] at HP9 yc3 ⊢
            clear hpt yb3
            by_cases hpp : 1 ≤ pt ∧ pt ≤ 4096
            · have HX := Lib.hid (HP9.out.trans (if_neg (by omega)))
              have HBp := Lib.hid (decide_eq_true hpp)
              clear hpp
              go_wp2_with (fail)
              refine (isBatch_h pt true _ HBp.out).mono ?_
              rintro e w2_ ⟨rfl, hw2_⟩
              obtain rfl := hw2_.symm
              clear hw2_
              go_wp2
              simp only [Exit.jump]
              generalize hWf : ((((Wh.setCell ⟨bz, 0, none⟩ (.int .i64 5)).setCell ⟨bz, 1, none⟩ (.int .i64 0)).setCell ⟨bz, 2, none⟩ (.slice (some ⟨gr, 0, none⟩) m m)).setCell ⟨bz, 3, none⟩ (.int .i64 pt)) = Wf
              obtain ⟨hbf, hof, r0, r1, r2, r3⟩ := fin4 zb3 q3 hzw hWf
              clear hWf
              refine bodyPost_ret (v := .tuple #[.agg #[.int .i64 5, .int .i64 0, .slice (some ⟨gr, 0, none⟩) m m, .int .i64 pt], .int .i64 (4 + m), .int .i64 0]) (by simp [results, Tryd.results37, go_sem, r0, r1, r2, r3]) rfl (givesH_row HX.out hbf (row_keep hrow3 (fun g_ hg_ => hof g_ (fun e_ => hzr (by injection hg_ with hg_; exact hg_.trans e_)))) HKS.out.symm hbase3 (by omega))
            · have HX := Lib.hid (HP9.out.trans (if_pos (by omega)))
              have HBp := Lib.hid (decide_eq_false hpp)
              clear hpp
              go_wp2_with (fail)
              refine (isBatch_h pt false _ HBp.out).mono ?_
              rintro e w2_ ⟨rfl, hw2_⟩
              obtain rfl := hw2_.symm
              clear hw2_
              go_wp2
              simp only [Exit.jump]
              generalize hWf : ((((Wh.setCell ⟨bz, 0, none⟩ (.int .i64 0)).setCell ⟨bz, 1, none⟩ (.int .i64 0)).setCell ⟨bz, 2, none⟩ (.slice none 0 0)).setCell ⟨bz, 3, none⟩ (.int .i64 0)) = Wf
              obtain ⟨hbf, hof, r0, r1, r2, r3⟩ := fin4 zb3 q3 hzw hWf
              clear hWf
              refine bodyPost_ret (v := .tuple #[.agg #[.int .i64 0, .int .i64 0, .slice none 0 0, .int .i64 0], .int .i64 0, .int .i64 6]) (by simp [results, Tryd.results37, go_sem, r0, r1, r2, r3]) rfl (givesH_bad HX.out hbf)
      · have HX := Lib.hid (HP4.out.trans (if_pos (by omega)))
        have HBk := Lib.hid (decide_eq_false hk3)
        clear hk3
        go_wp2_with (fail)
        refine (isFence_h k false _ HBk.out).mono ?_
        rintro e w2_ ⟨rfl, hw2_⟩
        obtain rfl := hw2_.symm
        clear hw2_
        go_wp2
        simp only [Exit.jump]
        generalize hWf : ((((W2.setCell ⟨bz, 0, none⟩ (.int .i64 0)).setCell ⟨bz, 1, none⟩ (.int .i64 0)).setCell ⟨bz, 2, none⟩ (.slice none 0 0)).setCell ⟨bz, 3, none⟩ (.int .i64 0)) = Wf
        obtain ⟨hbf, hof, r0, r1, r2, r3⟩ := fin4 bx2 hb2 hzw hWf
        clear hWf
        refine bodyPost_ret (v := .tuple #[.agg #[.int .i64 0, .int .i64 0, .slice none 0 0, .int .i64 0], .int .i64 0, .int .i64 6]) (by simp [results, Tryd.results37, go_sem, r0, r1, r2, r3]) rfl (givesH_bad HX.out hbf)
  · have HX := Lib.hid (HP0.out.trans (if_pos (by omega)))
    have HBO := Lib.hid (decide_eq_false h1)
    clear h1
    go_wp2_with (fail)
    refine (isOp_h x false _ HBO.out).mono ?_
    rintro e w2_ ⟨rfl, hw2_⟩
    obtain rfl := hw2_.symm
    clear hw2_
    go_wp2
    simp only [Exit.jump]
    generalize hWf : ((((W2.setCell ⟨bz, 0, none⟩ (.int .i64 0)).setCell ⟨bz, 1, none⟩ (.int .i64 0)).setCell ⟨bz, 2, none⟩ (.slice none 0 0)).setCell ⟨bz, 3, none⟩ (.int .i64 0)) = Wf
    obtain ⟨hbf, hof, r0, r1, r2, r3⟩ := fin4 bx2 hb2 hzw hWf
    clear hWf
    refine bodyPost_ret (v := .tuple #[.agg #[.int .i64 0, .int .i64 0, .slice none 0 0, .int .i64 0], .int .i64 0, .int .i64 5]) (by simp [results, Tryd.results37, go_sem, r0, r1, r2, r3]) rfl (givesH_bad HX.out hbf)
end Go.Proofs.YtcfdpimpleniaaaDoor
namespace Go.Proofs.YtcfdpimpleniaaaDoor
open Go.RowKit Go.Maps
set_option maxRecDepth 100000
set_option linter.unusedVariables false
set_option linter.unusedSimpArgs false

theorem formErr_back {op vx pts : Int} {rs : List Rg} (h : Okh ⟨op, vx, rs.map rgK, pts⟩) (hp : rgP rs = false) : formErr ⟨op, vx, rs.map rgK, pts⟩ (rgP rs) = 0 := formErr_ok.2 ⟨h, hp⟩
set_option maxHeartbeats 1000000 in
theorem hdrClassify_c (A : Option Addr) (n c : Nat) (bs : List Int) (S : Nat → Prop) (r : Int) (w : World) (hw : Wts w) (hb : SlR w S .u8 A bs) (hn : n = bs.length) (hU : UB bs) (hl : n ≤ 9223372036854775807) (hc : n ≤ c) (hr : classH bs = r) :
    Calls Tryd.prog 36 #[.slice A n c] w fun e w' => e = .returned (.int .i64 r) ∧ Below w.heap.size w w' := by
  have hok := parse_ok (b := bs) hU
  unfold classH at hr
  obtain ⟨P, hP⟩ : ∃ P, parseH bs = P := ⟨_, rfl⟩
  rw [hP] at hok hr
  obtain ⟨⟨op, vx, ks, pts⟩, m, er⟩ := P
  simp only at hr hok
  have HR := Lib.hid hr
  have HN := Lib.hid hn
  have HP := Lib.hid hP
  have HOK := Lib.hid hok
  clear hr hn hP hok
  go_enter Tryd.func36, Tryd.ntmps36
  go_wp2_with (fail)
  refine (hdrParse_c A n c bs S _ w hw hb HN.out hU hl hc HP.out).mono ?_
  intro e w1 hg
  obtain ⟨A', n', c', rs, rfl, hn', hrow, hks, hpt, hb1⟩ := hg.open_
  have HNn := Lib.hid hn'
  have HKs := Lib.hid hks
  have HPt := Lib.hid hpt
  clear hn' hks hpt
  go_upto_region 2 with (fail)
  obtain ⟨W, hW⟩ : ∃ W, W = w1.alloc (.cells #[.int .i64 op, .int .i64 vx, .slice A' n' c', .int .i64 pts] 24) := ⟨_, rfl⟩
  obtain ⟨h0, _, g0, g1, g2, g3⟩ := box4 hW
  obtain ⟨bg, hbg⟩ : ∃ b, b = w1.heap.size := ⟨_, rfl⟩
  rw [← hbg] at g0 g1 g2 g3
  rw [← hW, ← hbg]
  have hw1 := hb1.trans (h0.mono hb1.size)
  have hwt := hw.below hw1
  by_cases he : er = 0
  · subst he
    have hk := HOK.out rfl
    have h1 := hk.ok
    have h2 := hk.n2
    simp only at h1 h2
    obtain ⟨p, hp⟩ : ∃ p, payL ⟨op, vx, ks, pts⟩ = p := ⟨_, rfl⟩
    have hpb := payL_bd h1
    rw [hp] at hpb
    have hmn : m ≤ n := by rw [HN.out]; exact h2
    have hm68 : m ≤ 68 := by
      have h3 := hk.form
      simp only at h3
      have h4 := (formB_len h1).2
      rw [h3, List.length_take] at h4
      omega
    have HRr := Lib.hid HR.out
    rw [hp, if_pos rfl, ← HN.out] at HRr
    obtain rfl := HKs.out
    have HPp := Lib.hid (show (if formErr ⟨op, vx, rs.map rgK, pts⟩ (rgP rs) = 0 then payL ⟨op, vx, rs.map rgK, pts⟩ else 0) = p by rw [if_pos (formErr_back h1 HPt.out)]; exact hp)
    have hrow1 : RowR W (fun g => g < W.heap.size) 3 rgC A' rs := ((hrow.next h0).now (fun _ => Nat.succ_pos 2)).imp fun _ h => h.2
    have hSo : Go.Proofs.YtcfdpimpleniaaaDoor.S op ∧ Go.Proofs.YtcfdpimpleniaaaDoor.S vx ∧ Go.Proofs.YtcfdpimpleniaaaDoor.S pts := by
      have k0 := h1.op
      have k1 := h1.vs3
      have k2 := h1.vs0
      have k3 := h1.pts5
      have k4 := h1.pts0
      simp only at k0 k1 k2 k3 k4
      unfold Go.Proofs.YtcfdpimpleniaaaDoor.S
      refine ⟨by omega, ?_, ?_⟩
      · by_cases e3 : op = 3
        · have := k1 e3; omega
        · rw [k2 e3]; decide
      · by_cases e5 : op = 5
        · have := k3 e5; omega
        · rw [k4 e5]; decide
    have hlen : n' ≤ 64 := by
      by_cases e4 : 4 ≤ op
      · have := (h1.len e4).2; rw [HNn.out]; simpa using this
      · have := h1.len0 (show op < 4 by omega); rw [HNn.out]; have h5 : rs = [] := by simpa using this
        rw [h5]; decide
    have hSv : ∀ r ∈ rs, Go.Proofs.YtcfdpimpleniaaaDoor.S r.v := fun r hr => by
      by_cases e4 : 4 ≤ op
      · have h5 := badK (h1.ok e4) (rgK r) (List.mem_map.2 ⟨r, hr, rfl⟩)
        unfold rgK at h5
        simp only at h5
        unfold Go.Proofs.YtcfdpimpleniaaaDoor.S; omega
      · have := h1.len0 (show op < 4 by omega)
        have h5 : rs = [] := by simpa using this
        rw [h5] at hr; cases hr
    clear hp hW hbg hk h2 hb
    go_wp2_with (fail)
    refine (hdrPayload_c op vx pts A' n' c' rs p _ hwt hrow1 HNn.out (by omega) hSo hSv HPp.out).mono ?_
    rintro e w3 ⟨rfl, hb3⟩
    by_cases hq : (n : Int) = m + p
    · have HX := Lib.hid (show r = 0 by rw [← HRr.out, if_pos hq])
      have d1 : ((n : Int) != m + p) = false := by rw [bne_eq_false_iff_eq]; exact hq
      clear hq
      go_wp2
      go_ret
      exact ⟨by rw [HX.out]; rfl, hw1.trans (hb3.mono hw1.size)⟩
    · have HX := Lib.hid (show r = 8 by rw [← HRr.out, if_neg hq])
      have d1 : ((n : Int) != m + p) = true := by rw [bne_iff_ne]; exact hq
      clear hq
      go_wp2
      go_ret
      exact ⟨by rw [HX.out]; rfl, hw1.trans (hb3.mono hw1.size)⟩
  · have HX := Lib.hid (show r = er by rw [← HR.out, if_neg he])
    have d1 : (er != 0) = true := by rw [bne_iff_ne]; exact he
    clear he hW hbg hb
    go_wp2
    go_ret
    exact ⟨by rw [HX.out]; rfl, hw1⟩
end Go.Proofs.YtcfdpimpleniaaaDoor
