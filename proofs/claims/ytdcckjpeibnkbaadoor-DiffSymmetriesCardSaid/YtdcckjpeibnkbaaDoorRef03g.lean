/-
  Contracts of the reference of layer 3, last part: Is, Same, Fits.
-/
import Derived.Test.YtdcckjpeibnkbaaDoorRef03f
namespace Go.Proofs.YtdcckjpeibnkbaaDoor
open Go.RowKit

/-- Whether two lists are equal. -/
def sameB (xs ys : List Int) : Bool := decide (xs = ys)
theorem sameB_self (xs : List Int) : sameB xs xs = true := decide_eq_true rfl
theorem sameB_ne {xs ys : List Int} (h : xs ≠ ys) : sameB xs ys = false := decide_eq_false h
theorem rbool {a b : Bool} (h : a = b) : Ending.returned (.bool a) = .returned (.bool b) := by rw [h]
def SameRel (W : World) (xs ys : List Int) (i : Value) (wr : World) : Prop := (∃ n, wr = W.drewN n) ∧ ∃ k : Nat, i = .int .i64 k ∧ k ≤ xs.length ∧ xs.take k = ys.take k
theorem take_step {xs ys : List Int} {k : Nat} (h1 : k < xs.length) (h2 : k < ys.length) (h : xs.take k = ys.take k) (he : dgt xs k = dgt ys k) : xs.take (k + 1) = ys.take (k + 1) := by
  rw [List.take_succ_eq_append_getElem h1, List.take_succ_eq_append_getElem h2, h, ← dgt_lt h1, ← dgt_lt h2, he]
set_option maxHeartbeats 1000000 in
theorem r3same_any (A B : Option Addr) (c d : Nat) (xs ys : List Int) (SA SB : Nat → Prop) (w : World) (ha : SlR w SA .u64 A xs) (hb : SlR w SB .u64 B ys) (hl : xs.length ≤ 1000000) :
    Calls Tryd.prog 24 #[.slice A xs.length c, .slice B ys.length d] w fun e w' => e = .returned (.bool (sameB xs ys)) ∧ ∃ n, w' = w.drewN n := by
  by_cases hlen : xs.length = ys.length
  · have t1 : ((xs.length : Int) != (ys.length : Int)) = false := by rw [bne_eq_false_iff_eq]; omega
    have HLL := Lib.hid hlen
    clear hlen
    go_enter Tryd.func24, Tryd.ntmps24
    go_wp2
    go_loopw [5] (fun i wr => SameRel w xs ys i wr) (fun i _ => xs.length - (intOf i).toNat)
    case atStart => exact ⟨⟨0, rfl⟩, 0, rfl, Nat.zero_le _, rfl⟩
    case round =>
      obtain ⟨⟨n, rfl⟩, k, rfl, hk, htk⟩ := hrel
      by_cases hgo : k < xs.length
      · have hgo2 : k < ys.length := by rw [← HLL.out]; exact hgo
        obtain ⟨b, off, rfl, _, hca⟩ := ha.at_ hgo
        obtain ⟨b2, off2, rfl, _, hcb⟩ := hb.at_ hgo2
        rw [← dgt_lt hgo] at hca
        rw [← dgt_lt hgo2] at hcb
        have HT := Lib.hid htk
        clear htk ha hb
        by_cases hd : dgt xs k = dgt ys k
        · have t2 : (dgt xs k != dgt ys k) = false := by rw [bne_eq_false_iff_eq]; exact hd
          have HD := Lib.hid hd
          clear hd
          go_wp2_with (fail)
          go_quiet (fail)
          go_wp2
          go_roundw
          case rel => exact ⟨by first | exact ⟨_, rfl⟩ | (simp only [World.drewN_drewN]; exact ⟨_, rfl⟩), k + 1, by go_num, hgo, take_step hgo hgo2 HT.out HD.out⟩
          case measure => simp [intOf]; omega
        · have t2 : (dgt xs k != dgt ys k) = true := by rw [bne_iff_ne]; exact hd
          have HS := Lib.hid (show false = sameB xs ys from (sameB_ne fun h => hd (by rw [h])).symm)
          clear hd
          go_wp2_with (fail)
          go_quiet (fail)
          go_wp2
          go_ret
          exact ⟨rbool HS.out, by first | exact ⟨_, rfl⟩ | (simp only [World.drewN_drewN]; exact ⟨_, rfl⟩)⟩
      · have HS := Lib.hid (show true = sameB xs ys by
          have h1 := HLL.out
          rw [List.take_of_length_le (by omega), List.take_of_length_le (by omega)] at htk
          rw [htk, sameB_self])
        clear htk ha hb
        go_wp2
        go_ret
        exact ⟨rbool HS.out, n, rfl⟩
  · have t1 : ((xs.length : Int) != (ys.length : Int)) = true := by rw [bne_iff_ne]; omega
    have HS := Lib.hid (show false = sameB xs ys from (sameB_ne fun h => hlen (by rw [h])).symm)
    clear hlen
    go_enter Tryd.func24, Tryd.ntmps24
    go_wp2
    go_ret
    exact ⟨rbool HS.out, 0, rfl⟩
/-- Whether the value of the n limbs of x is x. -/
def fitsB (x : Int) (n : Nat) : Bool := decide (sv (limbs n x) = x)
theorem cmp_c (A B : Option Addr) (c d : Nat) (da db : List Int) (v : Int) (SA SB : Nat → Prop) (w : World) (ha : SlR w SA .i64 A da) (hb : SlR w SB .i64 B db) (hla : da.length ≤ 1000000) (hda : Nf da) (hdb : Nf db) (hv : (ev da - ev db).sign = v) :
    Calls Tryd.prog 42 #[.slice A da.length c, .slice B db.length d] w fun e w' => e = .returned (.int .i64 v) ∧ ∃ n, w' = w.drewN n := by
  subst hv; exact r3compareDigits_any A B c d da db w SA SB ha hb hla hda hdb
end Go.Proofs.YtdcckjpeibnkbaaDoor
