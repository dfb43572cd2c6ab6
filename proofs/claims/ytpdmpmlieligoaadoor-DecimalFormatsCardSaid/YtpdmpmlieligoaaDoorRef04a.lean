/-
  Contracts of the reference of layer 4, first part: the digits of a number.
-/
import Derived.Test.YtpdmpmlieligoaaDoorRef03g
import Derived.Test.YtpdmpmlieligoaaDoorDec
import Derived.Test.YtpdmpmlieligoaaDoorBs
import Derived.Laws.IdiomStrings
import Derived.Laws.Concat
namespace Go.Proofs.YtpdmpmlieligoaaDoor
open Go.RowKit

theorem decN_length {n k : Nat} (hk : 1 ≤ k) (h : n < 10 ^ k) : (decN n).length ≤ k := by
  induction k generalizing n with
  | zero => omega
  | succ k ih =>
    rcases Nat.lt_or_ge n 10 with h1 | h1
    · rw [decN_small h1]; simp
    · rw [decN_big h1, List.length_append, List.length_singleton]
      have hk0 : 1 ≤ k := by
        rcases Nat.eq_zero_or_pos k with h0 | h0
        · subst h0; simp at h; omega
        · exact h0
      have := ih hk0 (n := n / 10) (by rw [Nat.pow_succ] at h; omega)
      omega
theorem pow_digits (L : Nat) : (65536 : Int) ^ L ≤ ((10 ^ (5 * L + 1) : Nat) : Int) := by
  have h : 65536 ^ L ≤ 10 ^ (5 * L + 1) := by
    calc 65536 ^ L ≤ (10 ^ 5) ^ L := Nat.pow_le_pow_left (by omega) L
      _ = 10 ^ (5 * L) := by rw [← Nat.pow_mul]
      _ ≤ 10 ^ (5 * L + 1) := Nat.pow_le_pow_right (by omega) (by omega)
  have h2 : ((65536 ^ L : Nat) : Int) ≤ ((10 ^ (5 * L + 1) : Nat) : Int) := by omega
  rw [Int.natCast_pow] at h2
  exact h2
theorem decN_len_dg {ds : List Int} (h : Dg ds) : (decN (ev ds).toNat).length ≤ 5 * ds.length + 1 := by
  refine decN_length (by omega) ?_
  have h1 := ev_lt h
  have h2 := ev_nonneg h
  have h3 := pow_digits ds.length
  omega
theorem ev_drop {ds : List Int} {j : Nat} (h : j < ds.length) : ev (ds.drop j) = dgt ds j + 65536 * ev (ds.drop (j + 1)) := by
  rw [List.drop_eq_getElem_cons h, dgt_lt h]; rfl
theorem div_step {ds os : List Int} {j : Nat} {r x : Int} (hj : j < ds.length) (hl : os.length = ds.length) (hx : x = r * 65536 + dgt ds j) (h : ev (ds.drop (j + 1)) = 10 * ev (os.drop (j + 1)) + r) :
    ev (ds.drop j) = 10 * ev ((os.set j (x / 10)).drop j) + x % 10 := by
  have hjo : j < os.length := by omega
  rw [ev_drop hj, h]
  have e : (os.set j (x / 10)).drop j = x / 10 :: os.drop (j + 1) := by
    rw [List.drop_eq_getElem_cons (by simpa using hjo), List.getElem_set_self, List.drop_set_of_lt (by omega)]
  rw [e]
  simp only [ev]
  omega
def vStr : Value → Nat
  | .string s => s.size
  | _ => 0
def DigRel (W : World) (N L : Nat) (d s : Value) (wr : World) : Prop :=
  ∃ A c ds st, d = .slice A ds.length c ∧ s = .string (bs st) ∧ SlR wr (fun _ => True) .i64 A ds ∧ Nf ds ∧ preN (ev ds).toNat st = decN N ∧ ds.length ≤ L ∧ ds.length ≤ c ∧ Below W.heap.size W wr
def DivRel (W : World) (ds : List Int) (rest i : Value) (wr : World) : Prop :=
  ∃ (k : Nat) (os : List Int) (r z : Int), i = .int .i64 z ∧ z = (k : Int) - 1 ∧ rest = .int .i64 r ∧ 0 ≤ r ∧ r < 10 ∧ k ≤ ds.length ∧ OwnK wr W.heap.size 3 .i64 (.slice (some ⟨W.heap.size, 0, none⟩) ds.length ds.length) os ∧ os.length = ds.length ∧ Dg os ∧
    ev (ds.drop k) = 10 * ev (os.drop k) + r ∧ Below W.heap.size W wr
theorem own_made_i (w : World) (n : Nat) (hn : n ≤ 1000000) : OwnK (w.alloc (.cells (madeCells #[.int .i64 0] n) 3)) w.heap.size 3 .i64 (.slice (some ⟨w.heap.size, 0, none⟩) n n) (List.replicate n 0) := by
  have h := World.ownsRow_lit (e := 3) (size := 1) w (madeCells #[.int .i64 0] n) n (Nat.le_refl _) (by unfold maxLen; omega) (size_madeCells _ _ |>.trans (by simp))
  rw [toList_madeCells_one] at h
  unfold OwnK
  rw [List.length_replicate, List.map_replicate]
  exact h
def GivesStr (w : World) (l : List UInt8) (e : Ending) (w' : World) : Prop := e = .returned (.string (bs l)) ∧ Below w.heap.size w w'
theorem preN_len {n : Nat} {st : List UInt8} (h : 0 < n) : st.length < (preN n st).length := by
  unfold preN
  rw [if_neg (by omega), List.length_append]
  have := List.length_pos_iff.2 (decN_ne n)
  omega
theorem digRel_step {W wr w1 : World} {N : Nat} {ds os : List Int} {st : List UInt8} {r : Int} {m : Nat} (hos : SlR w1 (fun _ => True) .i64 (some ⟨wr.heap.size, 0, none⟩) os) (hl : os.length = ds.length) (hd : Dg os)
    (hev : ev ds = 10 * ev os + r) (h0 : 0 ≤ r) (h1 : r < 10) (hpos : 0 < ev ds) (hp : preN (ev ds).toNat st = decN N) (hb : Below W.heap.size W w1) (L : Nat) (hL : ds.length ≤ L) (hm : m ≤ os.length) (ht : trimL os = os.take m) :
    DigRel W N L (.slice (some ⟨wr.heap.size, 0, none⟩) m ds.length) (.string (bs (dig r.toNat :: st))) w1 := by
  have hlen : (os.take m).length = m := by rw [List.length_take]; omega
  have hev2 := trimL_ev os
  rw [ht] at hev2
  refine ⟨_, ds.length, os.take m, dig r.toNat :: st, by rw [hlen], rfl, hos.take m, by rw [← ht]; exact trimL_nf hd, ?_, by omega, by omega, hb⟩
  rw [hev2, ← hp]
  have h2 := ev_nonneg hd
  have e1 : (ev os).toNat = (ev ds).toNat / 10 := by omega
  have e2 : r.toNat = (ev ds).toNat % 10 := by omega
  rw [e1, e2]
  exact preN_step (by omega) st
set_option maxHeartbeats 4000000 in
theorem r4digits_any (A : Option Addr) (c : Nat) (ds : List Int) (S : Nat → Prop) (w : World) (h : SlR w S .i64 A ds) (hnf : Nf ds) (hl : ds.length ≤ 100000) (hc : ds.length ≤ c) :
    Calls Tryd.prog 43 #[.slice A ds.length c] w (GivesStr w (decN (ev ds).toNat)) := by
  by_cases h0 : ds = []
  · subst h0
    go_enter Tryd.func43, Tryd.ntmps43
    go_wp2
    go_ret
    exact ⟨by simp [ev, decN_zero, bs, dig_zero], Below.refl _ _⟩
  · have hp : 0 < ds.length := List.length_pos_iff.2 h0
    have hp' : ((ds.length : Int) == 0) = false := by rw [beq_eq_false_iff_ne]; omega
    have hev0 := hnf.ev_pos h0
    have HLen := Lib.hid (decN_len_dg hnf.1)
    obtain ⟨N, hN⟩ : ∃ N, N = (ev ds).toNat := ⟨_, rfl⟩
    rw [← hN]
    have HN := Lib.hid hN
    have HP := Lib.hid (show preN (ev ds).toNat [] = decN N by rw [hN]; exact preN_all (by omega))
    have HNf := Lib.hid hnf
    rw [← hN] at HLen
    clear hN h0 hnf hev0
    have hs0 := h.imp (T := fun _ => True) (fun _ _ => trivial)
    go_enter Tryd.func43, Tryd.ntmps43
    go_wp2
    clear hp'
    go_loopw [0, 3] (fun d s wr => DigRel w N ds.length d s wr) (fun _ s _ => (decN N).length - vStr s)
    case atStart => exact ⟨A, c, ds, [], rfl, rfl, hs0, HNf.out, HP.out, Nat.le_refl _, hc, Below.refl _ _⟩
    case round =>
      clear h hs0 HP HNf HN
      obtain ⟨A1, c1, es, st, rfl, rfl, hsl, hnf, hpre, hL, hc1, hbl⟩ := hrel
      obtain ⟨wr0, rfl⟩ : ∃ wr0, wr0 = wr := ⟨_, rfl⟩
      by_cases he : es = []
      · subst he
        have HR := Lib.hid (show st = decN N by rw [← hpre]; rfl)
        clear hpre
        go_wp2
        go_ret
        exact ⟨by rw [HR.out]; rfl, hbl⟩
      · have hp1 : 0 < es.length := List.length_pos_iff.2 he
        have hev0 := hnf.ev_pos he
        have HPre := Lib.hid hpre
        have HNf := Lib.hid hnf
        have HS := Lib.hid hsl
        have hst : st.length < (decN N).length := by rw [← hpre]; exact preN_len (by omega)
        have hmk := run_make_row' (P := Tryd.prog) 46 3 (.int .i64 0) 8 Tryd.underlying46 infoInt rfl .i64 .i64 es.length (by omega) (by omega)
        clear hpre hnf he hsl
        go_wp2
        clear hmk
        go_loopw [4, 6] (fun r i wx => DivRel wr0 es r i wx) (fun _ i _ => (intOf i + 1).toNat)
        case atStart => exact ⟨es.length, List.replicate es.length 0, 0, _, rfl, rfl, rfl, by decide, by decide, Nat.le_refl _, own_made_i wr0 es.length (by omega), List.length_replicate .., zeros_dg _, by simp [ev], (Below.refl _ _).alloc (Nat.le_refl _) _⟩
        case round =>
          obtain ⟨k, os, r, z, rfl, hz, rfl, hr0, hr1, hk, hown, hlo, hdo, hev, hb2⟩ := hrel
          have HO := Lib.hid hown
          have HL := Lib.hid hlo
          have HD := Lib.hid hdo
          have HE := Lib.hid hev
          clear hown hlo hdo hev
          cases k with
          | succ j =>
            obtain rfl : z = (j : Int) := by omega
            clear hz
            have hj : j < es.length := by omega
            obtain ⟨b, off, rfl, _, hca⟩ := (HS.out.next hb2).at_ hj
            rw [← dgt_lt hj] at hca
            have hdd := HNf.out.1.dgt j
            obtain ⟨q0, q1⟩ := hdd
            have hco := HO.out.cell_ HL.out hj
            have hfo := HO.out.frozen_ HL.out j
            go_wp2
            go_roundw
            case rel => exact ⟨j, os.set j ((r * 65536 + dgt es j) / 10), _, _, rfl, rfl, rfl, by omega, by omega, by omega, (OwnK.set_ (os := os) (by exact HO.out) HL.out j _).1, by rw [List.length_set]; exact HL.out, HD.out.set_ _ (by omega) (by omega), div_step hj HL.out rfl HE.out, hb2.setCell (p := ⟨wr0.heap.size, j, none⟩) (Nat.le_refl _) _⟩
            case measure => simp [intOf]
          | zero =>
            obtain rfl : z = -1 := by omega
            clear hz
            have HE0 := Lib.hid (show ev es = 10 * ev os + r by have h := HE.out; simpa using h)
            have hbw : Below w.heap.size w wr := hbl.trans (hb2.mono hbl.size)
            obtain ⟨A2, c2, hv, hcap, _, hsl2⟩ := HO.out.form
            rw [HL.out] at hv
            injection hv with ev1 ev2 ev3
            subst ev1
            subst ev3
            have HSl2 := Lib.hid (hsl2.imp (T := fun _ => True) (fun _ _ => trivial))
            clear hsl2 hcap ev2 HE
            go_wp2
            go_loop [5] (fun o => ∃ m : Nat, m ≤ es.length ∧ o = .slice (some ⟨wr0.heap.size, 0, none⟩) m es.length ∧ trimL (os.take m) = trimL os) (fun o => sLen o)
            case atStart => exact ⟨es.length, Nat.le_refl _, rfl, by rw [List.take_of_length_le (by rw [HL.out]; exact Nat.le_refl _)]⟩
            case round =>
              obtain ⟨m, hm, rfl, ht⟩ := hrel
              have hcv : ∀ wx : World, (convert 40 9 (.slice (some ⟨wx.heap.size, 0, none⟩) 1 1)).run Tryd.prog (wx.alloc (.cells #[.int .u8 (48 + r)] 5)) = .ok (.string (bs [dig r.toNat])) (wx.alloc (.cells #[.int .u8 (48 + r)] 5)) := by
                intro wx
                have h1 := dig_nat (d := r.toNat) (by omega)
                refine run_convert_bytes_back (P := Tryd.prog) _ 40 9 5 ⟨wx.heap.size, 0, none⟩ 1 [dig r.toNat] Tryd.underlying40 Tryd.underlying5 Tryd.underlying9 ?_
                intro j hj
                have hj0 : j = 0 := by simpa using hj
                subst hj0
                simp [Addr.add, go_sem]
                omega
              have hb1 : (bs [dig r.toNat]).size ≤ 1 := by rw [bs_size]; exact Nat.le_refl _
              have hbst : (bs st).size ≤ 1000000 := by rw [bs_size]; have := HLen.out; omega
              cases m with
              | zero =>
                have HT := Lib.hid (show trimL os = os.take 0 by rw [← ht]; rfl)
                clear ht
                go_wp2
                go_roundw
                case rel =>
                  rw [bs_append]
                  exact digRel_step (os := os) (HSl2.out.next ((Below.refl _ _).alloc (Nat.le_refl _) _)) HL.out HD.out HE0.out hr0 hr1 hev0 HPre.out (hbw.alloc hbw.size _) _ hL (by rw [HL.out]; omega) HT.out
                case measure =>
                  rw [bs_append]
                  simp only [vStr, bs_size, List.length_append, List.length_singleton]
                  omega
              | succ j =>
                have hj : j < es.length := hm
                have hjo : j < os.length := by rw [HL.out]; exact hj
                have hco := HO.out.cell_ HL.out hj
                by_cases hz : dgt os j = 0
                · have HT := Lib.hid (show trimL (os.take j) = trimL os by rw [← ht]; exact (trim_go hjo (by rw [← dgt_lt hjo]; exact hz)).symm)
                  have hz' : (dgt os j == 0) = true := by rw [hz]; rfl
                  clear ht hz hcv
                  go_wp2
                  go_round
                  case rel => exact ⟨j, by omega, by rfl, HT.out⟩
                  case measure => simp [sLen]
                · have HT := Lib.hid (show trimL os = os.take (j + 1) by rw [← ht]; exact trim_stop hjo (fun _ => by have := dgt_lt hjo; simp [hjo]; rw [← this]; exact hz))
                  have hz' : (dgt os j == 0) = false := by simpa using hz
                  clear ht hz
                  go_wp2
                  go_roundw
                  case rel =>
                    rw [bs_append]
                    exact digRel_step (os := os) (HSl2.out.next ((Below.refl _ _).alloc (Nat.le_refl _) _)) HL.out HD.out HE0.out hr0 hr1 hev0 HPre.out (hbw.alloc hbw.size _) _ hL (by rw [HL.out]; omega) HT.out
                  case measure =>
                    rw [bs_append]
                    simp only [vStr, bs_size, List.length_append, List.length_singleton]
                    omega
end Go.Proofs.YtpdmpmlieligoaaDoor
