/-
  The walk of the law LimbSelects.
-/
import Derived.Test.YtkdiglabjcfjfaaDoorLaw3d
namespace Go.Proofs.YtkdiglabjcfjfaaDoor
open Go.RowKit

def SelKRel (w1 : World) (b off n : Nat) (i : Value) (wr : World) : Prop :=
  ∃ k : Nat, i = .int .i64 k ∧ k ≤ n ∧ Below w1.heap.size w1 wr ∧ ∀ j, j < n → (∃ v : Int, wr.cell? ⟨b, off + j, none⟩ = some (.int .u64 v)) ∧ wr.frozen? ⟨b, off + j, none⟩ = false
theorem selRel_step {w1 wr : World} {b off n k : Nat} {x : Int} (hb : w1.heap.size ≤ b) (hk : k < n) (h : Below w1.heap.size w1 wr) (hc : ∀ j, j < n → (∃ v : Int, wr.cell? ⟨b, off + j, none⟩ = some (.int .u64 v)) ∧ wr.frozen? ⟨b, off + j, none⟩ = false) :
    SelKRel w1 b off n (.int .i64 (↑k + 1)) (wr.setCell ⟨b, off + k, none⟩ (.int .u64 x)) := by
  refine ⟨k + 1, by go_num, hk, h.setCell (p := ⟨b, off + k, none⟩) hb _, fun j hj => ⟨?_, (World.frozen?_setCell _ _ _ _).trans (hc j hj).2⟩⟩
  by_cases hjk : j = k
  · subst hjk
    obtain ⟨v, hv⟩ := (hc j hj).1
    exact ⟨x, World.cell?_setCell_same _ _ _ hv⟩
  · obtain ⟨v, hv⟩ := (hc j hj).1
    exact ⟨v, (World.cell?_setCell_other _ _ _ _ (by first | (simp; done) | (simp; omega))).trans hv⟩
theorem limbSelect_a (m : Int) (A B : Option Addr) (c d : Nat) (la lb : List Int) (w : World) (hw : Wts w) (hm : U m) (ha : Arg w A c la) (hb : Arg w B d lb) (l1 : 1 ≤ la.length) (l8 : la.length ≤ 8) (hl : la.length = lb.length) (ho : m % 2 = 1) :
    Calls Tryd.prog 30 #[.int .u64 m, .slice A la.length c, .slice B lb.length d] w (GivesF w la) := by
  have h := limbSelect_yes m A B c d la lb w hw hm ha hb l1 l8 hl
  rw [if_pos ho] at h
  exact h
theorem limbSelect_b (m : Int) (A B : Option Addr) (c d : Nat) (la lb : List Int) (w : World) (hw : Wts w) (hm : U m) (ha : Arg w A c la) (hb : Arg w B d lb) (l1 : 1 ≤ la.length) (l8 : la.length ≤ 8) (hl : la.length = lb.length) (ho : ¬ m % 2 = 1) :
    Calls Tryd.prog 30 #[.int .u64 m, .slice A la.length c, .slice B lb.length d] w (GivesF w lb) := by
  have h := limbSelect_yes m A B c d la lb w hw hm ha hb l1 l8 hl
  rw [if_neg ho] at h
  exact h
set_option maxHeartbeats 1000000 in
theorem law_limbSelects (m : Int) (A B : Option Addr) (c d : Nat) (la lb : List Int) (w : World) (hw : Wts w) (hm : U m) (ha : Arg w A c la) (hb : Arg w B d lb) :
    Calls Tryd.prog 7 #[.int .u64 m, .slice A la.length c, .slice B lb.length d] w fun e w' => e = .returned (.bool true) ∧ Below w.heap.size w w' := by
  have hb1 : Below w.heap.size w (w.alloc (.cells #[.slice A la.length c, .slice B lb.length d] 22)) := (Below.refl _ _).alloc (Nat.le_refl _) _
  have hw1 := hw.below hb1
  have hm0 := hm.1
  by_cases hlong : 50 < la.length ∨ 50 < lb.length
  · go_enter Tryd.func7, Tryd.ntmps7
    go_wp2_with (fail)
    refine (long2_yes _ la.length c lb.length d A B _ (by simp [go_sem]) (by simp [go_sem]) hlong).mono ?_
    rintro e w' ⟨rfl, rfl⟩
    go_wp2_with (fail)
    refine (alive3 _ (hw.below hb1)).mono ?_
    rintro e w2 ⟨rfl, hb2⟩
    have hb2' : Below w.heap.size w w2 := hb1.trans (hb2.mono hb1.size)
    go_wp2
    go_ret
    exact ⟨rfl, hb2'⟩
  · rcases cmp_cases la.length lb.length with h1 | ⟨h1, h2, h3⟩ | ⟨h1, h2, h3⟩
    · go_enter Tryd.func7, Tryd.ntmps7
      go_wp2_with (fail)
      refine (long2_no _ la.length c lb.length d A B _ (by simp [go_sem]) (by simp [go_sem]) (by omega) (by omega)).mono ?_
      rintro e w' ⟨rfl, rfl⟩
      go_wp2_with (fail)
      refine (limbSelect_no m A B c d la lb _ hw1 hm (ha.next hb1) (hb.next hb1) (by omega) (by omega) (by omega)).mono ?_
      rintro e w2 ⟨A2, c2, rfl, hb2⟩
      have hb2' : Below w.heap.size w w2 := hb1.trans (hb2.mono hb1.size)
      go_wp2_with (fail)
      refine (r3is_no A la.length c _ h1).mono ?_
      rintro e w' ⟨rfl, hw'⟩
      obtain rfl := hw'.symm
      go_wp2_with (fail)
      refine (alive3 _ (hw.below hb2')).mono ?_
      rintro e w3 ⟨rfl, hb3⟩
      have hb3' : Below w.heap.size w w3 := hb2'.trans (hb3.mono hb2'.size)
      go_wp2
      go_ret
      exact ⟨rfl, hb3'⟩
    · have HL := Lib.hid h3
      have hle1 : lb.length ≤ la.length := by omega
      have hle2 : la.length ≤ lb.length := by omega
      clear h3
      by_cases hodd : m % 2 = 1
      · have t0 : ((la.length : Int) != (lb.length : Int)) = false := by rw [bne_eq_false_iff_eq]; omega
        have hl2 : lb.length ≤ 8 := by omega
        have hl3 : 1 ≤ lb.length := by omega
        have t1 : (m % 2 == 1) = true := by rw [hodd]; rfl
        have HODD := Lib.hid hodd
        clear hodd
        go_enter Tryd.func7, Tryd.ntmps7
        go_wp2_with (fail)
        refine (long2_no _ la.length c lb.length d A B _ (by simp [go_sem]) (by simp [go_sem]) (by omega) (by omega)).mono ?_
        rintro e w' ⟨rfl, rfl⟩
        go_wp2_with (fail)
        refine (limbSelect_a m A B c d la lb _ hw1 hm (ha.next hb1) (hb.next hb1) h1 h2 HL.out HODD.out).mono ?_
        rintro e w2 ⟨G, gc, rfl, hgc, hgs, hgf, hb2⟩
        have hb2' : Below w.heap.size w w2 := hb1.trans (hb2.mono hb1.size)
        go_wp2_with (fail)
        refine (r3is_yes A la.length c _ h1 h2).mono ?_
        rintro e w' ⟨rfl, hw'⟩
        obtain rfl := hw'.symm
        go_wp2_with (fail)
        refine (same_t G A gc c la la _ _ _ hgs (ha.next hb2').sl (by omega) rfl).mono ?_
        rintro e w' ⟨rfl, m3, rfl⟩
        have hb3' := below_drewN' hb2' m3
        obtain ⟨gb, goff, rfl, hgb, _⟩ := hgs.at_ (show 0 < la.length by omega)
        have hsz1 : w.heap.size + 1 ≤ gb := by simpa using hgb
        have hcs : ∀ j, j < la.length → (∃ v : Int, (w2.drewN m3).cell? ⟨gb, goff + j, none⟩ = some (.int .u64 v)) ∧ (w2.drewN m3).frozen? ⟨gb, goff + j, none⟩ = false := by
          intro j hj
          obtain ⟨b', off', e1, _, hc⟩ := hgs.at_ hj
          injection e1 with e1
          injection e1 with e1 e2
          subst e1; subst e2
          exact ⟨⟨_, hc⟩, hgf _ _ rfl j hj⟩
        have HC := Lib.hid hcs
        have hl50 : la.length ≤ 8 := by omega
        clear hcs hgs hgf
        go_wp2
        go_loopw [9, 46] (fun _ i wr => SelKRel (w.alloc (.cells #[.slice A la.length c, .slice B lb.length d] 22)) gb goff la.length i wr) (fun _ i _ => la.length - (intOf i).toNat)
        case atStart => exact ⟨0, rfl, Nat.zero_le _, below_drewN' hb2 m3, HC.out⟩
        case round =>
          obtain ⟨k, rfl, hk, hbr, hcr⟩ := hrel
          by_cases hgo : k < la.length
          · obtain ⟨⟨v, hv⟩, hf⟩ := hcr k hgo
            have HCR := Lib.hid hcr
            clear hcr
            go_wp2
            go_roundw
            case rel => exact selRel_step (by simpa using hgb) hgo hbr HCR.out
            case measure => simp [intOf]; omega
          · have hbr' : Below w.heap.size w _ := hb1.trans (hbr.mono hb1.size)
            clear hcr
            go_wp2_with (fail)
            refine (alive3 _ (hw.below hbr')).mono ?_
            rintro e w4 ⟨rfl, hb4⟩
            have hb4' : Below w.heap.size w w4 := hbr'.trans (hb4.mono hbr'.size)
            go_wp2_with (fail)
            refine (limbSelect_a m A B c d la lb _ (hw.below hb4') hm (ha.next hb4') (hb.next hb4') h1 h2 HL.out HODD.out).mono ?_
            rintro e w5 ⟨G5, gc5, rfl, hgc5, hgs5, hgf5, hb5⟩
            have hb5' : Below w.heap.size w w5 := hb4'.trans (hb5.mono hb4'.size)
            go_wp2_with (fail)
            refine (same_t G5 A gc5 c la la _ _ _ hgs5 (ha.next hb5').sl (by omega) rfl).mono ?_
            rintro e w' ⟨rfl, m6, rfl⟩
            have hb6' := below_drewN' hb5' m6
            go_wp2
            go_ret
            exact ⟨rfl, hb6'⟩
      · have t0 : ((la.length : Int) != (lb.length : Int)) = false := by rw [bne_eq_false_iff_eq]; omega
        have hl2 : lb.length ≤ 8 := by omega
        have hl3 : 1 ≤ lb.length := by omega
        have t1 : (m % 2 == 1) = false := by rw [beq_eq_false_iff_ne]; exact hodd
        have HODD := Lib.hid hodd
        clear hodd
        go_enter Tryd.func7, Tryd.ntmps7
        go_wp2_with (fail)
        refine (long2_no _ la.length c lb.length d A B _ (by simp [go_sem]) (by simp [go_sem]) (by omega) (by omega)).mono ?_
        rintro e w' ⟨rfl, rfl⟩
        go_wp2_with (fail)
        refine (limbSelect_b m A B c d la lb _ hw1 hm (ha.next hb1) (hb.next hb1) h1 h2 HL.out HODD.out).mono ?_
        rintro e w2 ⟨G, gc, rfl, hgc, hgs, hgf, hb2⟩
        have hb2' : Below w.heap.size w w2 := hb1.trans (hb2.mono hb1.size)
        go_wp2_with (fail)
        refine (r3is_yes A la.length c _ h1 h2).mono ?_
        rintro e w' ⟨rfl, hw'⟩
        obtain rfl := hw'.symm
        go_wp2_with (fail)
        refine (same_t G B gc d lb lb _ _ _ hgs (hb.next hb2').sl (by omega) rfl).mono ?_
        rintro e w' ⟨rfl, m3, rfl⟩
        have hb3' := below_drewN' hb2' m3
        obtain ⟨gb, goff, rfl, hgb, _⟩ := hgs.at_ (show 0 < lb.length by omega)
        have hsz1 : w.heap.size + 1 ≤ gb := by simpa using hgb
        have hcs : ∀ j, j < lb.length → (∃ v : Int, (w2.drewN m3).cell? ⟨gb, goff + j, none⟩ = some (.int .u64 v)) ∧ (w2.drewN m3).frozen? ⟨gb, goff + j, none⟩ = false := by
          intro j hj
          obtain ⟨b', off', e1, _, hc⟩ := hgs.at_ hj
          injection e1 with e1
          injection e1 with e1 e2
          subst e1; subst e2
          exact ⟨⟨_, hc⟩, hgf _ _ rfl j hj⟩
        have HC := Lib.hid hcs
        have hl50 : lb.length ≤ 8 := by omega
        clear hcs hgs hgf
        go_wp2
        go_loopw [9, 46] (fun _ i wr => SelKRel (w.alloc (.cells #[.slice A la.length c, .slice B lb.length d] 22)) gb goff lb.length i wr) (fun _ i _ => lb.length - (intOf i).toNat)
        case atStart => exact ⟨0, rfl, Nat.zero_le _, below_drewN' hb2 m3, HC.out⟩
        case round =>
          obtain ⟨k, rfl, hk, hbr, hcr⟩ := hrel
          by_cases hgo : k < lb.length
          · obtain ⟨⟨v, hv⟩, hf⟩ := hcr k hgo
            have HCR := Lib.hid hcr
            clear hcr
            go_wp2
            go_roundw
            case rel => exact selRel_step (by simpa using hgb) hgo hbr HCR.out
            case measure => simp [intOf]; omega
          · have hbr' : Below w.heap.size w _ := hb1.trans (hbr.mono hb1.size)
            clear hcr
            go_wp2_with (fail)
            refine (alive3 _ (hw.below hbr')).mono ?_
            rintro e w4 ⟨rfl, hb4⟩
            have hb4' : Below w.heap.size w w4 := hbr'.trans (hb4.mono hbr'.size)
            go_wp2_with (fail)
            refine (limbSelect_b m A B c d la lb _ (hw.below hb4') hm (ha.next hb4') (hb.next hb4') h1 h2 HL.out HODD.out).mono ?_
            rintro e w5 ⟨G5, gc5, rfl, hgc5, hgs5, hgf5, hb5⟩
            have hb5' : Below w.heap.size w w5 := hb4'.trans (hb5.mono hb4'.size)
            go_wp2_with (fail)
            refine (same_t G5 B gc5 d lb lb _ _ _ hgs5 (hb.next hb5').sl (by omega) rfl).mono ?_
            rintro e w' ⟨rfl, m6, rfl⟩
            have hb6' := below_drewN' hb5' m6
            go_wp2
            go_ret
            exact ⟨rfl, hb6'⟩
    · have t1 : ((la.length : Int) != (lb.length : Int)) = true := by rw [bne_iff_ne]; omega
      go_enter Tryd.func7, Tryd.ntmps7
      go_wp2_with (fail)
      refine (long2_no _ la.length c lb.length d A B _ (by simp [go_sem]) (by simp [go_sem]) (by omega) (by omega)).mono ?_
      rintro e w' ⟨rfl, rfl⟩
      go_wp2_with (fail)
      refine (limbSelect_no m A B c d la lb _ hw1 hm (ha.next hb1) (hb.next hb1) (by omega) (by omega) (by omega)).mono ?_
      rintro e w2 ⟨A2, c2, rfl, hb2⟩
      have hb2' : Below w.heap.size w w2 := hb1.trans (hb2.mono hb1.size)
      go_wp2_with (fail)
      refine (r3is_yes A la.length c _ h1 h2).mono ?_
      rintro e w' ⟨rfl, hw'⟩
      obtain rfl := hw'.symm
      go_wp2_with (fail)
      refine (alive3 _ (hw.below hb2')).mono ?_
      rintro e w3 ⟨rfl, hb3⟩
      have hb3' : Below w.heap.size w w3 := hb2'.trans (hb3.mono hb2'.size)
      go_wp2
      go_ret
      exact ⟨rfl, hb3'⟩
end Go.Proofs.YtkdiglabjcfjfaaDoor
