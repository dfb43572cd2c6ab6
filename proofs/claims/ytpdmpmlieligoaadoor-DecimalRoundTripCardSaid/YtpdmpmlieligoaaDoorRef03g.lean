/-
  Contracts of the reference of layer 3, last part: Is, Same, Fits.
-/
import Derived.Test.YtpdmpmlieligoaaDoorRef03f
namespace Go.Proofs.YtpdmpmlieligoaaDoor
open Go.RowKit

theorem r3is_yes (A : Option Addr) (n c : Nat) (w : World) (h1 : 1 ≤ n) (h2 : n ≤ 8) :
    Calls Tryd.prog 15 #[.slice A n c] w fun e w' => e = .returned (.bool true) ∧ w' = w := by
  have t1 : decide ((1 : Int) ≤ (n : Int)) = true := decide_eq_true (by omega)
  have t2 : decide ((n : Int) ≤ 8) = true := decide_eq_true (by omega)
  go_enter Tryd.func15, Tryd.ntmps15
  go_wp2
  go_ret
  exact ⟨rfl, rfl⟩
theorem r3is_no (A : Option Addr) (n c : Nat) (w : World) (h : n = 0 ∨ 8 < n) :
    Calls Tryd.prog 15 #[.slice A n c] w fun e w' => e = .returned (.bool false) ∧ w' = w := by
  rcases h with h | h
  · subst h
    go_enter Tryd.func15, Tryd.ntmps15
    go_wp2
    go_ret
    exact ⟨rfl, rfl⟩
  · have h1 : 1 ≤ n := by omega
    have t1 : decide ((1 : Int) ≤ (n : Int)) = true := decide_eq_true (by omega)
    have t2 : decide ((n : Int) ≤ 8) = false := decide_eq_false (by omega)
    have t3 : decide (n ≤ 8) = false := decide_eq_false (by omega)
    go_enter Tryd.func15, Tryd.ntmps15
    go_wp2
    go_ret
    exact ⟨rfl, rfl⟩
/-- Whether two lists are equal. -/
def sameB (xs ys : List Int) : Bool := decide (xs = ys)
theorem sameB_self (xs : List Int) : sameB xs xs = true := decide_eq_true rfl
theorem sameB_ne {xs ys : List Int} (h : xs ≠ ys) : sameB xs ys = false := decide_eq_false h
theorem rbool {a b : Bool} (h : a = b) : Ending.returned (.bool a) = .returned (.bool b) := by rw [h]
def SameRel (W : World) (xs ys : List Int) (i : Value) (wr : World) : Prop := (∃ n, wr = W.drewN n) ∧ ∃ k : Nat, i = .int .i64 k ∧ k ≤ xs.length ∧ xs.take k = ys.take k
theorem take_step {xs ys : List Int} {k : Nat} (h1 : k < xs.length) (h2 : k < ys.length) (h : xs.take k = ys.take k) (he : dgt xs k = dgt ys k) : xs.take (k + 1) = ys.take (k + 1) := by
  rw [List.take_succ_eq_append_getElem h1, List.take_succ_eq_append_getElem h2, h, ← dgt_lt h1, ← dgt_lt h2, he]
set_option maxHeartbeats 1000000 in
theorem r3same_any (A B : Option Addr) (c d : Nat) (xs ys : List Int) (SA SB : Nat → Prop) (w : World) (ha : SlR w SA .u64 A xs) (hb : SlR w SB .u64 B ys) (hl : xs.length ≤ 1000000) :
    Calls Tryd.prog 14 #[.slice A xs.length c, .slice B ys.length d] w fun e w' => e = .returned (.bool (sameB xs ys)) ∧ ∃ n, w' = w.drewN n := by
  by_cases hlen : xs.length = ys.length
  · have t1 : ((xs.length : Int) != (ys.length : Int)) = false := by rw [bne_eq_false_iff_eq]; omega
    have HLL := Lib.hid hlen
    clear hlen
    go_enter Tryd.func14, Tryd.ntmps14
    go_wp2
    go_loopw [5] (fun i wr => SameRel w xs ys i wr) (fun i _ => xs.length - (intOf i).toNat)
    case atStart => exact ⟨⟨0, rfl⟩, 0, rfl, Nat.zero_le _, rfl⟩
    case round =>
      obtain ⟨⟨n, rfl⟩, k, rfl, hk, htk⟩ := hrel
      by_cases hgo : k < xs.length
      · have hgo2 : k < ys.length := by rw [← HLL.out]; exact hgo
        obtain ⟨b, off, rfl, _, hca⟩ := ha.at_ hgo
        obtain ⟨b2, off2, rfl, _, hcb⟩ := hb.at_ hgo2
        rw [← dgt_lt hgo] at hca
        rw [← dgt_lt hgo2] at hcb
        have HT := Lib.hid htk
        clear htk ha hb
        by_cases hd : dgt xs k = dgt ys k
        · have t2 : (dgt xs k != dgt ys k) = false := by rw [bne_eq_false_iff_eq]; exact hd
          have HD := Lib.hid hd
          clear hd
          go_wp2_with (fail)
          go_quiet (fail)
          go_wp2
          go_roundw
          case rel => exact ⟨by first | exact ⟨_, rfl⟩ | (simp only [World.drewN_drewN]; exact ⟨_, rfl⟩), k + 1, by go_num, hgo, take_step hgo hgo2 HT.out HD.out⟩
          case measure => simp [intOf]; omega
        · have t2 : (dgt xs k != dgt ys k) = true := by rw [bne_iff_ne]; exact hd
          have HS := Lib.hid (show false = sameB xs ys from (sameB_ne fun h => hd (by rw [h])).symm)
          clear hd
          go_wp2_with (fail)
          go_quiet (fail)
          go_wp2
          go_ret
          exact ⟨rbool HS.out, by first | exact ⟨_, rfl⟩ | (simp only [World.drewN_drewN]; exact ⟨_, rfl⟩)⟩
      · have HS := Lib.hid (show true = sameB xs ys by
          have h1 := HLL.out
          rw [List.take_of_length_le (by omega), List.take_of_length_le (by omega)] at htk
          rw [htk, sameB_self])
        clear htk ha hb
        go_wp2
        go_ret
        exact ⟨rbool HS.out, n, rfl⟩
  · have t1 : ((xs.length : Int) != (ys.length : Int)) = true := by rw [bne_iff_ne]; omega
    have HS := Lib.hid (show false = sameB xs ys from (sameB_ne fun h => hlen (by rw [h])).symm)
    clear hlen
    go_enter Tryd.func14, Tryd.ntmps14
    go_wp2
    go_ret
    exact ⟨rbool HS.out, 0, rfl⟩
/-- Whether the value of the n limbs of x is x. -/
def fitsB (x : Int) (n : Nat) : Bool := decide (sv (limbs n x) = x)
theorem cmp_c (A B : Option Addr) (c d : Nat) (da db : List Int) (v : Int) (SA SB : Nat → Prop) (w : World) (ha : SlR w SA .i64 A da) (hb : SlR w SB .i64 B db) (hla : da.length ≤ 1000000) (hda : Nf da) (hdb : Nf db) (hv : (ev da - ev db).sign = v) :
    Calls Tryd.prog 50 #[.slice A da.length c, .slice B db.length d] w fun e w' => e = .returned (.int .i64 v) ∧ ∃ n, w' = w.drewN n := by
  subst hv; exact r3compareDigits_any A B c d da db w SA SB ha hb hla hda hdb
theorem r3fits_any (va : Value) (x : Int) (n L : Nat) (S : Nat → Prop) (w : World) (ha : NumR w S L va x) (hL : L ≤ 100000) (hn : n ≤ 1000) :
    Calls Tryd.prog 32 #[va, .int .i64 n] w fun e w' => e = .returned (.bool (fitsB x n)) ∧ Below w.heap.size w w' := by
  have ha' := ha
  obtain ⟨A, c, da, rfl, hc, hs, hd, he, hl⟩ := ha
  have hb1 : Below w.heap.size w (w.alloc (.cells #[.int .i64 x.sign, .slice A da.length c] 48)) := (Below.refl _ _).alloc (Nat.le_refl _) _
  go_enter Tryd.func32, Tryd.ntmps32
  go_wp2_with (fail)
  refine (r3limbs_any _ x n L S _ (ha'.next hb1) hL hn).mono ?_
  rintro e w1 ⟨A1, c1, rfl, hc1, hs1, hb2⟩
  obtain ⟨hcc, hff⟩ := cell_below hb2
  have hz1 : w.heap.size < w1.heap.size := by have := hb2.size; simp at this; omega
  go_wp2_with (fail)
  refine (r3value_any A1 c1 (limbs n x) (fun _ => True) _ _ hs1 (limbs_us n x) (by rw [limbs_length]; exact hn) (fun _ _ => trivial)).mono ?_
  rintro e w2 ⟨_, rfl, ⟨A2, c2, ds2, rfl, hc2, hs2, hd2, he2, hl2⟩, hb3⟩
  obtain ⟨hcd, hfd⟩ := cell_below hb3
  have hz2 : w.heap.size < w2.heap.size := by have := hb3.size; omega
  have hbw : Below w.heap.size w w2 := (hb1.trans (hb2.mono (by simp))).trans (hb3.mono (by omega))
  by_cases hsg : x.sign = (sv (limbs n x)).sign
  · have t1 : (x.sign == (sv (limbs n x)).sign) = true := beq_iff_eq.2 hsg
    have hva : SlR w2 S .i64 A da := (hs.next hb1 |>.next hb2).next hb3
    obtain ⟨v, hv⟩ : ∃ v, (ev da - ev ds2).sign = v := ⟨_, rfl⟩
    have HF := Lib.hid (show (v == 0) = fitsB x n by
      unfold fitsB
      rw [Bool.eq_iff_iff, beq_iff_eq, decide_eq_true_eq, ← hv, Int.sign_eq_zero_iff_zero, he, he2]
      generalize sv (limbs n x) = z at hsg
      constructor
      · intro h
        have hab : x.natAbs = z.natAbs := by omega
        have := Int.sign_mul_natAbs x
        rw [hsg, hab, Int.sign_mul_natAbs] at this
        exact this
      · intro h
        rw [h]; omega)
    have HV := Lib.hid hv
    have hb4 := Lib.hid (hbw.alloc hbw.size (.cells #[.int .i64 (sv (limbs n x)).sign, .slice A2 ds2.length c2] 48))
    have hva2 := hva.next (Below.alloc (Below.refl _ _) (Nat.le_refl _) (.cells #[.int .i64 (sv (limbs n x)).sign, .slice A2 ds2.length c2] 48))
    have hs22 := hs2.next (Below.alloc (Below.refl _ _) (Nat.le_refl _) (.cells #[.int .i64 (sv (limbs n x)).sign, .slice A2 ds2.length c2] 48))
    clear hsg he he2 hv
    go_wp2_with (fail)
    refine (cmp_c A A2 c c2 da ds2 v S (fun _ => True) _ hva2 hs22 (by omega) hd hd2 HV.out).mono ?_
    rintro e w' ⟨rfl, m, rfl⟩
    go_wp2
    go_ret
    exact ⟨rbool HF.out, below_drewN' hb4.out m⟩
  · have t1 : (x.sign == (sv (limbs n x)).sign) = false := beq_eq_false_iff_ne.2 hsg
    have HF := Lib.hid (show false = fitsB x n from (decide_eq_false fun h => hsg (by rw [h])).symm)
    clear hsg he he2
    go_wp2
    go_ret
    exact ⟨rbool HF.out, hbw.alloc hbw.size _⟩
end Go.Proofs.YtpdmpmlieligoaaDoor
