/-
  Contracts of package decimal, second part: digits appended to an unsigned number.
-/
import Derived.Test.YtpdmpmlieligoaaDoorDecA
namespace Go.Proofs.YtpdmpmlieligoaaDoor
open Go.RowKit

theorem add64z_any (x y : Int) (hx : U x) (hy : U y) (w : World) :
    (callFunc 65 #[.int .u64 x, .int .u64 y, .int .u64 0]).run Tryd.prog w = .ok (.value (.tuple #[.int .u64 (lo (x + y)), .int .u64 (hi (x + y))])) w := by
  have h := add64_run x y 0 hx hy (by decide) (by decide) w
  rw [Int.add_zero] at h
  exact h
/-- One limb's step. -/
theorem app_step {d c : Int} (hd : U d) (h0 : 0 ≤ c) (h9 : c ≤ 9) :
    lo (lo (d * 10) + c) + 18446744073709551616 * (hi (d * 10) + hi (lo (d * 10) + c)) = 10 * d + c ∧ 0 ≤ hi (d * 10) + hi (lo (d * 10) + c) ∧ hi (d * 10) + hi (lo (d * 10) + c) ≤ 9 := by
  unfold U at hd
  unfold lo hi
  omega
theorem take_set {os : List Int} (k : Nat) (x : Int) : (os.set k x).take k = os.take k := by
  rw [List.take_set, List.set_eq_of_length_le (by simp; omega)]
def AppRel (W : World) (B : Nat) (g n : Nat) (os0 : List Int) (x : Int) (cr i : Value) (wr : World) : Prop :=
  ∃ (k : Nat) (os : List Int) (c : Int), i = .int .i64 k ∧ cr = .int .u64 c ∧ k ≤ n ∧ OwnK wr B 33 .u64 (.slice (some ⟨g, 0, none⟩) n n) os ∧ os.length = n ∧ Us os ∧
    0 ≤ c ∧ c ≤ 9 ∧ uv (os.take k) + M k * c = 10 * uv (os0.take k) + x ∧ (∀ t, k ≤ t → dgt os t = dgt os0 t) ∧ Below B W wr
set_option maxHeartbeats 2000000 in
theorem appendDigit_any (B g n : Nat) (os0 : List Int) (x : Int) (w : World) (_hB : B ≤ w.heap.size) (hg : B ≤ g) (hown : OwnK w B 33 .u64 (.slice (some ⟨g, 0, none⟩) n n) os0) (hl : os0.length = n) (hu : Us os0) (h8 : n ≤ 1000) (h0 : 0 ≤ x) (h9 : x ≤ 9) :
    Calls Tryd.prog 48 #[.slice (some ⟨g, 0, none⟩) n n, .int .u64 x] w fun e w' =>
      ∃ (os : List Int) (c : Int), e = .returned (.int .u64 c) ∧ OwnK w' B 33 .u64 (.slice (some ⟨g, 0, none⟩) n n) os ∧ os.length = n ∧ Us os ∧ 0 ≤ c ∧ c ≤ 9 ∧ uv os + M n * c = 10 * uv os0 + x ∧ Below B w w' := by
  have HO0 := Lib.hid hown
  have HL0 := Lib.hid hl
  have HU0 := Lib.hid hu
  clear hown hl hu
  go_enter Tryd.func48, Tryd.ntmps48
  go_wp2
  go_loopw [5, 14] (fun cr i wr => AppRel w B g n os0 x cr i wr) (fun _ i _ => n - (intOf i).toNat)
  case atStart => exact ⟨0, os0, x, rfl, rfl, Nat.zero_le _, HO0.out, HL0.out, HU0.out, h0, h9, by simp [uv, M_zero], fun _ _ => rfl, Below.refl _ _⟩
  case round =>
    obtain ⟨k, os, c, rfl, rfl, hk, hown, hlo, hu, hc0, hc9, huv, hsame, hbl⟩ := hrel
    have HO := Lib.hid hown
    have HL := Lib.hid hlo
    have HU := Lib.hid hu
    have HV := Lib.hid huv
    have HS := Lib.hid hsame
    clear hown hlo hu huv hsame
    by_cases hgo : k < n
    · have hco := HO.out.cell_ HL.out hgo
      have hfo := HO.out.frozen_ HL.out k
      have hUd := HU.out.dgt k
      have HSt := Lib.hid (app_step hUd hc0 hc9)
      have hUc : U c := by unfold U; omega
      have HD := Lib.hid (show dgt os k = dgt os0 k from HS.out k (Nat.le_refl _))
      obtain ⟨d, hd⟩ : ∃ d, d = dgt os k := ⟨_, rfl⟩
      rw [← hd] at hco hUd
      have HE := Lib.hid hd
      clear hd
      go_wp2_with (fail)
      refine (mul64_any _ _ hUd (by unfold U; decide) _).mono ?_
      rintro e w' ⟨rfl, hw1⟩
      obtain rfl := hw1.symm
      have hadd := add64z_any (lo (d * 10)) c (U_lo _) hUc wr
      go_wp2
      go_roundw
      case rel =>
        obtain ⟨e1, e2, e3⟩ := HSt.out
        rw [← HE.out] at e1 e2 e3
        have ew : IntKind.u64.wrap (hi (d * 10) + hi (lo (d * 10) + c)) = hi (d * 10) + hi (lo (d * 10) + c) := by rw [wrap_u]; omega
        rw [ew]
        have hp : k < os.length := by rw [HL.out]; exact hgo
        refine ⟨k + 1, os.set k (lo (lo (d * 10) + c)), _, by go_num, rfl, hgo, (OwnK.set_ (os := os) (by exact HO.out) HL.out k _).1, by rw [List.length_set]; exact HL.out, HU.out.set_ _ (U_lo _), e2, e3, ?_, fun t ht => ?_, hbl.setCell (p := ⟨g, k, none⟩) hg _⟩
        · have hv := HV.out
          rw [uv_take_dgt, take_set, dgt_set _ hp, if_pos rfl, uv_take_dgt, ← HD.out, ← HE.out, M_succ, Int.mul_assoc, Int.add_assoc, ← Int.mul_add, e1, Int.mul_add, Int.mul_add]
          have : M k * (10 * d) = 10 * (M k * d) := by rw [← Int.mul_assoc, Int.mul_comm (M k) 10, Int.mul_assoc]
          omega
        · rw [dgt_set _ hp, if_neg (by omega)]; exact HS.out t (by omega)
      case measure => simp [intOf]; omega
    · have hkn : k = n := by omega
      have HF := Lib.hid (show uv os + M n * c = 10 * uv os0 + x by
        have h := HV.out
        rw [List.take_of_length_le (by rw [HL.out]; omega), List.take_of_length_le (by rw [HL0.out]; omega), hkn] at h
        exact h)
      clear hkn
      go_wp2
      go_ret
      exact ⟨os, c, rfl, HO.out, HL.out, HU.out, hc0, hc9, HF.out, hbl⟩
/-- More digits, a greater number. -/
theorem valN_mono (l r : List UInt8) : valN l ≤ valN (l ++ r) := by
  induction hn : r.length using Nat.strongRecOn generalizing r with
  | ind n ih =>
    by_cases hr : r = []
    · subst hr; simp
    · have e := List.dropLast_concat_getLast hr
      generalize r.getLast hr = c at e
      generalize r.dropLast = q at e
      subst e
      rw [← List.append_assoc, valN_snoc]
      have := ih q.length (by simp at hn; omega) q rfl
      omega
theorem valN_take_le (d : List UInt8) (k : Nat) : valN (d.take k) ≤ valN d := by
  have h := valN_mono (d.take k) (d.drop k)
  rw [List.take_append_drop] at h
  exact h
/-- What unsigned answers. -/
def GivesN (w : World) (n : Nat) (v : Int) (e : Ending) (w' : World) : Prop :=
  if v < M n then ∃ g os, e = .returned (.tuple #[.slice (some ⟨g, 0, none⟩) n n, .bool true]) ∧ w.heap.size ≤ g ∧ OwnK w' w.heap.size 33 .u64 (.slice (some ⟨g, 0, none⟩) n n) os ∧ os.length = n ∧ Us os ∧ uv os = v ∧ Below w.heap.size w w'
  else e = .returned (.tuple #[.slice none 0 0, .bool false]) ∧ Below w.heap.size w w'
def UnsRel (W : World) (d : List UInt8) (n : Nat) (i : Value) (wr : World) : Prop :=
  ∃ (k : Nat) (os : List Int), i = .int .i64 k ∧ k ≤ d.length ∧ OwnK wr W.heap.size 33 .u64 (.slice (some ⟨W.heap.size, 0, none⟩) n n) os ∧ os.length = n ∧ Us os ∧ uv os = (valN (d.take k) : Int) ∧ Below W.heap.size W wr
set_option maxHeartbeats 2000000 in
theorem unsigned_any (d : List UInt8) (n : Nat) (w : World) (hd : Digs d) (hs : d.length ≤ 1000000) (h1 : 1 ≤ n) (h8 : n ≤ 8) :
    Calls Tryd.prog 27 #[.string (bs d), .int .i64 n] w (GivesN w n (valN d)) := by
  have hmk := run_make_row' (P := Tryd.prog) 22 33 (.int .u64 0) 8 Tryd.underlying22 infoU rfl .i64 .i64 n (by omega) (by omega)
  have hsz : (bs d).size ≤ 1000000 := by rw [bs_size]; exact hs
  have HDg := Lib.hid hd
  obtain ⟨V, hV⟩ : ∃ V : Int, V = (valN d : Int) := ⟨_, rfl⟩
  rw [← hV]
  have HVV := Lib.hid hV
  clear hd hV
  go_enter Tryd.func27, Tryd.ntmps27
  go_wp2
  go_loopw [12] (fun i wr => UnsRel w d n i wr) (fun i _ => d.length - (intOf i).toNat)
  case atStart => exact ⟨0, List.replicate n 0, rfl, Nat.zero_le _, own_made w n (by omega), List.length_replicate .., zeros_us _, by rw [zeros_uv]; rfl, (Below.refl _ _).alloc (Nat.le_refl _) _⟩
  case round =>
    obtain ⟨k, os, rfl, hk, hown, hlo, hu, huv, hbl⟩ := hrel
    have HO := Lib.hid hown
    have HL := Lib.hid hlo
    have HU := Lib.hid hu
    have HV := Lib.hid huv
    clear hown hlo hu huv
    by_cases hgo : k < d.length
    · have hkz : k < (bs d).size := by rw [bs_size]; exact hgo
      have hbyte : (bs d)[k]'hkz = d[k] := rfl
      have hdk := HDg.out d[k] (List.getElem_mem hgo)
      have hT := valN_take hgo
      rw [← hbyte] at hdk
      have HT := Lib.hid hT
      clear hT
      obtain ⟨C, hC⟩ : ∃ C : Int, C = (((bs d)[k]'hkz).toNat : Int) - 48 := ⟨_, rfl⟩
      have e1 : IntKind.u8.wrap ((((bs d)[k]'hkz).toNat : Int) - 48) = C := by rw [← hC]; simp [IntKind.wrap, IntKind.bits, IntKind.signed]; omega
      have e2 : IntKind.u64.wrap C = C := by rw [wrap_u]; omega
      have hC0 : 0 ≤ C := by omega
      have hC9 : C ≤ 9 := by omega
      have HT2 := Lib.hid (show (valN (d.take (k + 1)) : Int) = 10 * uv os + C by
        rw [HV.out]
        have := HT.out
        rw [hbyte] at hC hdk
        omega)
      clear hC hbyte hdk HT
      go_wp2_with (fail)
      refine (appendDigit_any w.heap.size w.heap.size n os C wr hbl.size (Nat.le_refl _) HO.out HL.out HU.out (by omega) hC0 hC9).mono ?_
      rintro e w2 ⟨os2, c, rfl, hown2, hl2, hu2, hc0, hc9, huv2, hb2⟩
      have hbw : Below w.heap.size w w2 := hbl.trans hb2
      have HO2 := Lib.hid hown2
      have HL2 := Lib.hid hl2
      have HV2 := Lib.hid huv2
      clear hown2 hl2 huv2 e1 e2
      by_cases hc : c = 0
      · subst hc
        go_wp2
        go_roundw
        case rel => exact ⟨k + 1, os2, by go_num, hgo, HO2.out, HL2.out, hu2, by rw [HT2.out, ← HV2.out]; omega, hbw⟩
        case measure => simp [intOf]; omega
      · have hc' : (c == 0) = false := by rw [beq_eq_false_iff_ne]; exact hc
        have HN := Lib.hid (show M n ≤ V by
          have h1 := valN_take_le d (k + 1)
          have h2 := HT2.out
          have h3 := HV2.out
          have h4 := uv_nonneg hu2
          have h5 : M n * 1 ≤ M n * c := Int.mul_le_mul_of_nonneg_left (by omega) (Int.le_of_lt (M_pos n))
          have h6 := HVV.out
          omega)
        clear hc
        go_wp2
        go_ret2
        unfold GivesN
        rw [if_neg (Int.not_lt.2 HN.out)]
        exact ⟨rfl, hbw⟩
    · have hkz : ¬ k < (bs d).size := by rw [bs_size]; exact hgo
      have HF := Lib.hid (show uv os = V by rw [HV.out, List.take_of_length_le (by omega), HVV.out])
      go_wp2
      go_ret2
      unfold GivesN
      rw [if_pos (by rw [← HF.out]; have := uv_lt HU.out; rw [HL.out] at this; exact this)]
      exact ⟨_, os, rfl, Nat.le_refl _, HO.out, HL.out, HU.out, HF.out, hbl⟩
end Go.Proofs.YtpdmpmlieligoaaDoor
