/-
  Contracts of package decimal, third part: division by one word.
-/
import Derived.Test.YtpdmpmlieligoaaDoorDecB
import Derived.Test.YtpdmpmlieligoaaDoorDiv
namespace Go.Proofs.YtpdmpmlieligoaaDoor
open Go.RowKit

/-- A slice of words of the call's own, and a word. -/
def GivesQ (w : World) (ls : List Int) (r : Int) (e : Ending) (w' : World) : Prop :=
  ∃ A c, e = .returned (.tuple #[.slice A ls.length c, .int .u64 r]) ∧ ls.length ≤ c ∧ SlR w' (fun b => w.heap.size ≤ b) .u64 A ls ∧ Below w.heap.size w w'
theorem uv_drop {ds : List Int} {j : Nat} (h : j < ds.length) : uv (ds.drop j) = dgt ds j + 18446744073709551616 * uv (ds.drop (j + 1)) := by rw [List.drop_eq_getElem_cons h, dgt_lt h]; rfl
/-- One limb's step of the division. -/
theorem udiv_step {ds os : List Int} {j : Nat} {r d : Int} (hj : j < ds.length) (hl : os.length = ds.length) (_hd : 0 < d) (h : uv (ds.drop (j + 1)) = d * uv (os.drop (j + 1)) + r) :
    uv (ds.drop j) = d * uv ((os.set j ((r * 18446744073709551616 + dgt ds j) / d)).drop j) + (r * 18446744073709551616 + dgt ds j) % d := by
  have hjo : j < os.length := by omega
  rw [uv_drop hj, uv_drop (ds := os.set j _) (by rw [List.length_set]; exact hjo), dgt_set _ hjo, if_pos rfl, h, List.drop_set, if_pos (by omega)]
  have e := Int.mul_ediv_add_emod (r * 18446744073709551616 + dgt ds j) d
  generalize (r * 18446744073709551616 + dgt ds j) / d = q at e ⊢
  generalize (r * 18446744073709551616 + dgt ds j) % d = s at e ⊢
  generalize uv (os.drop (j + 1)) = u
  rw [Int.mul_add, Int.mul_add]
  have e2 : 18446744073709551616 * (d * u) = d * (18446744073709551616 * u) := by rw [← Int.mul_assoc, Int.mul_comm 18446744073709551616 d, Int.mul_assoc]
  omega
theorem quot_word {r a d : Int} (h0 : 0 ≤ r) (h1 : r < d) (ha : U a) : U ((r * 18446744073709551616 + a) / d) := by
  unfold U at *
  constructor
  · exact Int.ediv_nonneg (by omega) (by omega)
  · have : (r * 18446744073709551616 + a) / d < 18446744073709551616 := by
      apply Int.ediv_lt_of_lt_mul (by omega)
      have h2 : (r + 1) * 18446744073709551616 ≤ d * 18446744073709551616 := Int.mul_le_mul_of_nonneg_right (by omega) (by decide)
      rw [Int.mul_comm 18446744073709551616 d]
      omega
    omega
def QRel (W : World) (la : List Int) (d : Int) (r i : Value) (wr : World) : Prop :=
  ∃ (k : Nat) (os : List Int) (x z : Int), i = .int .i64 z ∧ z = (k : Int) - 1 ∧ r = .int .u64 x ∧ 0 ≤ x ∧ x < d ∧ k ≤ la.length ∧ OwnK wr W.heap.size 33 .u64 (.slice (some ⟨W.heap.size, 0, none⟩) la.length la.length) os ∧ os.length = la.length ∧ Us os ∧
    uv (la.drop k) = d * uv (os.drop k) + x ∧ Below W.heap.size W wr
set_option maxHeartbeats 2000000 in
theorem decDiv_yes (A : Option Addr) (c : Nat) (la : List Int) (d : Int) (w : World) (_hw : Wts w) (ha : Arg w A c la) (l1 : 1 ≤ la.length) (l8 : la.length ≤ 8) (hd : U d) (h0 : 0 < d) :
    Calls Tryd.prog 16 #[.slice A la.length c, .int .u64 d] w (GivesQ w (limbs la.length (uv la / d)) (uv la % d)) := by
  have hmk := run_make_row' (P := Tryd.prog) 22 33 (.int .u64 0) 8 Tryd.underlying22 infoU rfl .i64 .i64 la.length (by omega) (by omega)
  have t1 : (d == 0) = false := by rw [beq_eq_false_iff_ne]; omega
  have HA := Lib.hid ha
  have HDU := Lib.hid hd
  clear ha hd
  go_enter Tryd.func16, Tryd.ntmps16
  go_wp2_with (fail)
  refine (decWidth_yes _ _ (by omega) (by omega)).mono ?_
  rintro e w' ⟨rfl, hw1⟩
  obtain rfl := hw1.symm
  go_wp2
  go_loopw [7, 8] (fun r i wr => QRel w la d r i wr) (fun _ i _ => (intOf i + 1).toNat)
  case atStart => exact ⟨la.length, List.replicate la.length 0, 0, _, rfl, rfl, rfl, Int.le_refl _, h0, Nat.le_refl _, own_made w la.length (by omega), List.length_replicate .., zeros_us _, by simp [uv], (Below.refl _ _).alloc (Nat.le_refl _) _⟩
  case round =>
    obtain ⟨k, os, x, z, rfl, hz, rfl, hx0, hx1, hk, hown, hlo, hu, huv, hbl⟩ := hrel
    have HO := Lib.hid hown
    have HL := Lib.hid hlo
    have HU := Lib.hid hu
    have HV := Lib.hid huv
    clear hown hlo hu huv
    cases k with
    | succ j =>
      obtain rfl : z = (j : Int) := by omega
      clear hz
      have hj : j < la.length := by omega
      obtain ⟨b, off, rfl, _, hca⟩ := (HA.out.sl.next hbl).at_ hj
      rw [← dgt_lt hj] at hca
      have hUa := HA.out.us.dgt j
      have hUx : U x := by have := HDU.out; unfold U at *; omega
      have HQ := Lib.hid (quot_word hx0 hx1 hUa)
      have hco := HO.out.cell_ HL.out hj
      have hfo := HO.out.frozen_ HL.out j
      have HST := Lib.hid (udiv_step hj HL.out h0 HV.out)
      have hx2 := Int.emod_nonneg (x * 18446744073709551616 + dgt la j) (show d ≠ 0 by omega)
      have hx3 := Int.emod_lt_of_pos (x * 18446744073709551616 + dgt la j) h0
      obtain ⟨Q, hQ⟩ : ∃ Q, Q = (x * 18446744073709551616 + dgt la j) / d := ⟨_, rfl⟩
      obtain ⟨R, hR⟩ : ∃ R, R = (x * 18446744073709551616 + dgt la j) % d := ⟨_, rfl⟩
      have hdiv := div64_any x (dgt la j) d hUx hUa HDU.out hx1
      rw [← hQ, ← hR] at hdiv
      rw [← hR] at hx2 hx3
      have HST2 := Lib.hid (show uv (la.drop j) = d * uv ((os.set j Q).drop j) + R by rw [hQ, hR]; exact HST.out)
      have HQ2 := Lib.hid (show U Q by rw [hQ]; exact HQ.out)
      have HDIV := Lib.hid hdiv
      clear hdiv hQ hR HST HQ
      go_wp2_with (fail)
      refine (HDIV.out _).mono ?_
      rintro e w2 ⟨rfl, n1, rfl⟩
      go_wp2
      go_roundw
      case rel => exact ⟨j, os.set j Q, R, _, rfl, rfl, rfl, hx2, hx3, by omega, (OwnK.set_ (os := os) (by exact HO.out) HL.out j _).1, by rw [List.length_set]; exact HL.out, HU.out.set_ _ HQ2.out, HST2.out, (below_drewN' hbl n1).setCell (p := ⟨w.heap.size, j, none⟩) (Nat.le_refl _) _⟩
      case measure => simp [intOf]
    | zero =>
      obtain rfl : z = -1 := by omega
      clear hz
      have HV0 := Lib.hid (show uv la = d * uv os + x by have h := HV.out; simpa using h)
      go_wp2
      go_ret2
      have e1 : uv la / d = uv os := by rw [HV0.out, Int.mul_add_ediv_left _ _ (by omega), Int.ediv_eq_zero_of_lt hx0 hx1]; omega
      have e2 : uv la % d = x := by rw [HV0.out, Int.mul_add_emod_self_left]; exact Int.emod_eq_of_lt hx0 hx1
      have e3 : os = limbs la.length (uv la / d) := by
        refine limbs_unique HL.out HU.out ?_
        rw [e1]
        have h1 := uv_lt HU.out
        rw [HL.out] at h1
        exact (Int.emod_eq_of_lt (uv_nonneg HU.out) h1).symm
      rw [e2, ← e3]
      obtain ⟨A1, c1, hv, hcap, _, hsl⟩ := HO.out.form
      rw [HL.out] at hv
      injection hv with ev1 ev2 ev3
      subst ev1
      subst ev3
      exact ⟨some ⟨w.heap.size, 0, none⟩, la.length, by rw [HL.out]; rfl, by rw [HL.out]; exact Nat.le_refl _, hsl, hbl⟩
theorem decDiv_no (A : Option Addr) (c : Nat) (la : List Int) (d : Int) (w : World) (_hw : Wts w) (_ha : Arg w A c la) (_hl : la.length ≤ 1000000) (_hd : U d) (h : la.length < 1 ∨ 8 < la.length ∨ d = 0) :
    Calls Tryd.prog 16 #[.slice A la.length c, .int .u64 d] w (GivesQ w [] 0) := by
  by_cases hi : 1 ≤ la.length ∧ la.length ≤ 8
  · have t1 : (d == 0) = true := by rw [beq_iff_eq]; omega
    have h1 := hi.1
    have h8 := hi.2
    clear h hi
    go_enter Tryd.func16, Tryd.ntmps16
    go_wp2_with (fail)
    refine (decWidth_yes _ _ (by omega) (by omega)).mono ?_
    rintro e w' ⟨rfl, hw1⟩
    obtain rfl := hw1.symm
    go_wp2
    go_ret2
    exact ⟨none, 0, rfl, Nat.le_refl _, SlR.nil_ _ _ _ _, Below.refl _ _⟩
  · have HN := Lib.hid (show (la.length : Int) < 1 ∨ 8 < (la.length : Int) by omega)
    clear h hi
    go_enter Tryd.func16, Tryd.ntmps16
    go_wp2_with (fail)
    refine (decWidth_no _ _ HN.out).mono ?_
    rintro e w' ⟨rfl, hw1⟩
    obtain rfl := hw1.symm
    go_wp2
    go_ret2
    exact ⟨none, 0, rfl, Nat.le_refl _, SlR.nil_ _ _ _ _, Below.refl _ _⟩
end Go.Proofs.YtpdmpmlieligoaaDoor
