/-
  Contract of Div64 of package bits.
-/
import Derived.Test.YtpdmpmlieligoaaDoorLen
import Derived.Deep.QuietTactic
import Derived.BigQuiet
import Derived.Deep.DeepCutAuto
import Derived.Deep.CutRange
import Derived.Deep.CutBlock
namespace Go.Proofs.YtpdmpmlieligoaaDoor
open Go.RowKit

theorem bl_le64 {y : Int} (hy : U y) : bl y.toNat ≤ 64 := by
  rcases Nat.eq_zero_or_pos y.toNat with h | h
  · rw [h]; decide
  · have h1 := (bl_bd h).1
    rcases Nat.lt_or_ge 64 (bl y.toNat) with h2 | h2
    · have h3 : 2 ^ 64 ≤ 2 ^ (bl y.toNat - 1) := Nat.pow_le_pow_right (by omega) (by omega)
      unfold U at hy
      omega
    · exact h2
theorem lz64_s (y : Int) (hy : U y) (s : Nat) (hs : s = 64 - bl y.toNat) (w : World) :
    Calls Tryd.prog 53 #[.int .u64 y] w fun e w' => e = .returned (.int .i64 s) ∧ w' = w := by
  have h := lz64_any y hy w
  have hb := bl_le64 hy
  have e : (64 - (bl y.toNat : Int)) = (s : Int) := by omega
  rw [e] at h
  exact h
/-- The shifted divisor. -/
theorem shift_bd {y : Int} (hy : U y) (h : 0 < y) {s : Nat} (hs : s = 64 - bl y.toNat) : s ≤ 63 ∧ 9223372036854775808 ≤ y * 2 ^ s ∧ y * 2 ^ s < 18446744073709551616 := by
  obtain ⟨n, rfl⟩ := Int.eq_ofNat_of_zero_le hy.1
  rw [Int.toNat_natCast] at hs
  have hn : 0 < n := by omega
  have hb64 := bl_le64 hy
  rw [Int.toNat_natCast] at hb64
  obtain ⟨b0, b1⟩ := bl_bd hn
  have hb1 : 0 < bl n := by unfold bl; rw [if_neg (by omega)]; omega
  have e1 : 2 ^ (bl n - 1) * 2 ^ s = 2 ^ 63 := by rw [← Nat.pow_add]; congr 1; omega
  have e2 : 2 ^ bl n * 2 ^ s = 2 ^ 64 := by rw [← Nat.pow_add]; congr 1; omega
  have hp := Nat.two_pow_pos s
  have k1 := Nat.mul_le_mul_right (2 ^ s) b0
  have k2 : n * 2 ^ s < 2 ^ bl n * 2 ^ s := Nat.mul_lt_mul_of_pos_right b1 hp
  have e3 : ((n : Int) * 2 ^ s) = ((n * 2 ^ s : Nat) : Int) := by rw [Int.natCast_mul, Int.natCast_pow]; rfl
  rw [e3]
  refine ⟨by omega, ?_, ?_⟩ <;> omega
/-- The first two digits of the shifted dividend, and the last two. -/
theorem shift_split {h l y : Int} (hh : U h) (hl : U l) (hy : U y) (hlt : h < y) {s : Nat} (hs : s ≤ 63) (hY : y * 2 ^ s < 18446744073709551616) :
    bits .or .u64 (IntKind.u64.wrap (h * 2 ^ s)) (l / 2 ^ (64 - s)) = h * 2 ^ s + l / 2 ^ (64 - s) ∧ 0 ≤ h * 2 ^ s + l / 2 ^ (64 - s) ∧ h * 2 ^ s + l / 2 ^ (64 - s) < y * 2 ^ s ∧
      (h * 18446744073709551616 + l) * 2 ^ s = (h * 2 ^ s + l / 2 ^ (64 - s)) * 18446744073709551616 + IntKind.u64.wrap (l * 2 ^ s) := by
  obtain ⟨h, rfl⟩ := Int.eq_ofNat_of_zero_le hh.1
  obtain ⟨l, rfl⟩ := Int.eq_ofNat_of_zero_le hl.1
  obtain ⟨y, rfl⟩ := Int.eq_ofNat_of_zero_le hy.1
  have hp := Nat.two_pow_pos s
  have hq := Nat.two_pow_pos (64 - s)
  have epq : 2 ^ (64 - s) * 2 ^ s = 2 ^ 64 := by rw [← Nat.pow_add]; congr 1; omega
  have hlt' : h + 1 ≤ y := by omega
  have k1 := Nat.mul_le_mul_right (2 ^ s) hlt'
  rw [Nat.add_mul, Nat.one_mul] at k1
  have eI : ∀ n : Nat, ((n : Int) * 2 ^ s) = ((n * 2 ^ s : Nat) : Int) := fun n => by rw [Int.natCast_mul, Int.natCast_pow]; rfl
  have eD : ((l : Int) / 2 ^ (64 - s)) = ((l / 2 ^ (64 - s) : Nat) : Int) := by rw [Int.natCast_ediv, Int.natCast_pow]; rfl
  rw [eI y] at hY ⊢
  have hl64 : l < 2 ^ (64 - s) * 2 ^ s := by rw [epq]; have := hl.2; omega
  have d1 : l / 2 ^ (64 - s) < 2 ^ s := (Nat.div_lt_iff_lt_mul hq).2 (by rw [Nat.mul_comm]; exact hl64)
  have hw : IntKind.u64.wrap ((h * 2 ^ s : Nat) : Int) = ((h * 2 ^ s : Nat) : Int) := by rw [wrap_u]; omega
  have hor : bits .or .u64 ((h * 2 ^ s : Nat) : Int) ((l / 2 ^ (64 - s) : Nat) : Int) = ((h * 2 ^ s + l / 2 ^ (64 - s) : Nat) : Int) := by
    have x1 : h * 2 ^ s < 2 ^ 64 := by omega
    have x2 : l / 2 ^ (64 - s) < 2 ^ 64 := by
      have : 2 ^ s ≤ 2 ^ 64 := Nat.pow_le_pow_right (by omega) (by omega)
      omega
    have e1 : ((h * 2 ^ s : Nat) : Int) = ((BitVec.ofNat 64 (h * 2 ^ s)).toNat : Int) := by rw [BitVec.toNat_ofNat, Nat.mod_eq_of_lt x1]
    have e2 : ((l / 2 ^ (64 - s) : Nat) : Int) = ((BitVec.ofNat 64 (l / 2 ^ (64 - s))).toNat : Int) := by rw [BitVec.toNat_ofNat, Nat.mod_eq_of_lt x2]
    rw [e1, e2, or_w, BitVec.toNat_or, BitVec.toNat_ofNat, BitVec.toNat_ofNat, Nat.mod_eq_of_lt x1, Nat.mod_eq_of_lt x2, Nat.mul_comm h, ← Nat.two_pow_add_eq_or_of_lt d1]
  rw [eI h, eD, hw, hor]
  have hadd : ((h * 2 ^ s : Nat) : Int) + ((l / 2 ^ (64 - s) : Nat) : Int) = ((h * 2 ^ s + l / 2 ^ (64 - s) : Nat) : Int) := by omega
  have f1 : h * 2 ^ s + l / 2 ^ (64 - s) < y * 2 ^ s := by omega
  refine ⟨hadd.symm, by rw [hadd]; exact Int.natCast_nonneg _, by rw [hadd]; exact Int.ofNat_lt.2 f1, ?_⟩
  rw [hadd, eI l, wrap_u]
  have eM : l * 2 ^ s = l / 2 ^ (64 - s) * 18446744073709551616 + (l * 2 ^ s) % 18446744073709551616 := by
    have m1 := Nat.div_add_mod l (2 ^ (64 - s))
    have m2 : l * 2 ^ s = (l / 2 ^ (64 - s)) * 18446744073709551616 + (l % 2 ^ (64 - s)) * 2 ^ s := by
      have : l * 2 ^ s = (2 ^ (64 - s) * (l / 2 ^ (64 - s)) + l % 2 ^ (64 - s)) * 2 ^ s := by rw [m1]
      rw [this, Nat.add_mul]
      congr 1
      rw [Nat.mul_comm (2 ^ (64 - s)), Nat.mul_assoc, epq]
    have m3 : (l % 2 ^ (64 - s)) * 2 ^ s < 18446744073709551616 := by
      have := Nat.mul_lt_mul_of_pos_right (Nat.mod_lt l hq) hp
      rw [epq] at this
      exact this
    omega
  have eL : ((h : Int) * 18446744073709551616 + (l : Int)) * 2 ^ s = ((h * 2 ^ s : Nat) : Int) * 18446744073709551616 + ((l * 2 ^ s : Nat) : Int) := by
    rw [Int.add_mul, eI l, ← eI h, Int.mul_assoc, Int.mul_comm 18446744073709551616, ← Int.mul_assoc]
  rw [eL]
  omega
theorem and_low (Y : Int) (h : U Y) : bits .and .u64 Y 4294967295 = Y % 4294967296 := by
  unfold U at h
  have := and_low32 Y h.1 (by omega)
  exact this
theorem div64_zero (l y : Int) (hl : U l) (_hy : U y) (h : 0 < y) (w : World) :
    Calls Tryd.prog 34 #[.int .u64 0, .int .u64 l, .int .u64 y] w fun e w' => e = .returned (.tuple #[.int .u64 (l / y), .int .u64 (l % y)]) ∧ ∃ n, w' = w.drewN n := by
  obtain ⟨l0, l1⟩ := hl
  have t1 : (y == 0) = false := by rw [beq_eq_false_iff_ne]; omega
  have t2 : ¬ y ≤ 0 := by omega
  have hne : ¬ y = 0 := by omega
  go_enter Tryd.func34, Tryd.ntmps34
  go_wp2_with (fail)
  go_quiet (fail)
  go_wp2
  go_ret2
  exact ⟨rfl, nq, rfl⟩
set_option maxRecDepth 100000 in
set_option maxHeartbeats 4000000 in
theorem div64_big (h l y : Int) (hh : U h) (hl : U l) (hy : U y) (h0 : 0 < h) (hlt : h < y) (w : World) :
    Calls Tryd.prog 34 #[.int .u64 h, .int .u64 l, .int .u64 y] w fun e w' => e = .returned (.tuple #[.int .u64 ((h * 18446744073709551616 + l) / y), .int .u64 ((h * 18446744073709551616 + l) % y)]) ∧ w' = w := by
  have hy' := hy
  obtain ⟨y0, y1⟩ := hy
  have t1 : (y == 0) = false := by rw [beq_eq_false_iff_ne]; omega
  have t2 : ¬ y ≤ h := by omega
  have t3 : (h == 0) = false := by rw [beq_eq_false_iff_ne]; omega
  obtain ⟨s, hs⟩ : ∃ s : Nat, s = 64 - bl y.toNat := ⟨_, rfl⟩
  obtain ⟨hs63, hY0, hY1⟩ := shift_bd hy' (by omega) hs
  have HL := Lib.hid (lz64_s y hy' s hs w)
  have ew : IntKind.u64.wrap (s : Int) = s := by rw [wrap_u]; omega
  have em : min s 64 = s := by omega
  obtain ⟨eOr, hv0, hvY, hVs⟩ := shift_split hh hl hy' hlt hs63 hY1
  obtain ⟨Y, hY⟩ : ∃ Y : Int, Y = y * 2 ^ s := ⟨_, rfl⟩
  have eY : IntKind.u64.wrap (y * 2 ^ s) = Y := by rw [← hY, wrap_u]; rw [← hY] at hY0 hY1; omega
  rw [← hY] at hY0 hY1 hvY
  obtain ⟨v, hv⟩ : ∃ v : Int, v = h * 2 ^ s + l / 2 ^ (64 - s) := ⟨_, rfl⟩
  rw [← hv] at eOr hv0 hvY hVs
  obtain ⟨T, hT⟩ : ∃ T : Int, IntKind.u64.wrap (l * 2 ^ s) = T := ⟨_, rfl⟩
  have hTU : U T := by rw [← hT]; exact U_wrap _
  rw [hT] at hVs
  obtain ⟨wa, hwa⟩ : ∃ wa : Int, T / 4294967296 = wa := ⟨_, rfl⟩
  obtain ⟨wb, hwb⟩ : ∃ wb : Int, bits .and .u64 T 4294967295 = wb := ⟨_, rfl⟩
  have hwb' : T % 4294967296 = wb := by rw [← and_low T hTU]; exact hwb
  have hwa0 : 0 ≤ wa := by unfold U at hTU; omega
  have hwa1 : wa < 4294967296 := by unfold U at hTU; omega
  have hwb0 : 0 ≤ wb := by omega
  have hwb1 : wb < 4294967296 := by omega
  have HT := Lib.hid (show T = wa * 4294967296 + wb by omega)
  have HVs := Lib.hid hVs
  obtain ⟨Ya, hYa⟩ : ∃ Ya : Int, Y / 4294967296 = Ya := ⟨_, rfl⟩
  obtain ⟨Yb, hYb⟩ : ∃ Yb : Int, bits .and .u64 Y 4294967295 = Yb := ⟨_, rfl⟩
  have hYb' : Y % 4294967296 = Yb := by rw [← and_low Y (by unfold U; omega)]; exact hYb
  have HYab := Lib.hid (show Y = Ya * 4294967296 + Yb by omega)
  have hYa0 : 2147483648 ≤ Ya := by omega
  have hYa1 : Ya < 4294967296 := by omega
  have hYb0 : 0 ≤ Yb := by omega
  have hYb1 : Yb < 4294967296 := by omega
  have hYp : 0 < Y := by omega
  have e64 : IntKind.u64.wrap (64 - (s : Int)) = ((64 - s : Nat) : Int) := by rw [wrap_u]; omega
  have em2 : min (64 - s) 64 = 64 - s := by omega
  have hYq : ¬ Ya = 0 := by omega
  have hqi0 : 0 ≤ v / Ya := Int.ediv_nonneg hv0 (by omega)
  have hqi1 : v / Ya ≤ 4294967297 := qd_top HYab.out hYa0 hYb1 hvY
  have eq1 : IntKind.u64.wrap (v.tdiv Ya) = v / Ya := by rw [Int.tdiv_eq_ediv_of_nonneg hv0, wrap_u]; omega
  have hem := Int.emod_add_mul_ediv v Ya
  have hem0 := Int.emod_nonneg v (show Ya ≠ 0 by omega)
  have hem1 := Int.emod_lt_of_pos v (show 0 < Ya by omega)
  have hmul : v / Ya * Ya = v - v % Ya := by rw [Int.mul_comm]; omega
  have hmul0 : 0 ≤ v / Ya * Ya := Int.mul_nonneg hqi0 (by omega)
  have eq2 : IntKind.u64.wrap (v / Ya * Ya) = v / Ya * Ya := by rw [wrap_u]; omega
  have eq3 : IntKind.u64.wrap (v - v / Ya * Ya) = v - v / Ya * Ya := by rw [wrap_u]; omega
  have HR0 := Lib.hid (show 0 ≤ v - v / Ya * Ya ∧ v - v / Ya * Ya < 4294967296 by omega)
  have HS := Lib.hid hs
  have HY := Lib.hid hY
  have HV := Lib.hid hv
  clear hs hY hv hwb' hYb' hem hem0 hem1 hmul hmul0 hVs
  go_enter Tryd.func34, Tryd.ntmps34
  go_wp2_with (fail)
  refine HL.out.mono ?_
  rintro e w' ⟨rfl, hw1⟩
  obtain rfl := hw1.symm
  go_upto_block 0 with (fail)
  clear ew em em2 e64 eOr hT hwa hwb hYa hYb eq1 eq2 eq3 eY
  go_cut [15] (fun a wx => a = .int .u64 ((v * 4294967296 + wa) / Y) ∧ wx = w)
  case first =>
    go_wp2_with (fail)
    go_loop [15, 16] (fun a b => ∃ q rh : Int, a = .int .u64 q ∧ b = .int .u64 rh ∧ 0 ≤ q ∧ (v * 4294967296 + wa) / Y ≤ q ∧ q ≤ 4294967297 ∧ rh = v - q * Ya ∧ 0 ≤ rh ∧ rh < 4294967296) (fun a _ => (intOf a).toNat)
    case atStart => exact ⟨_, _, rfl, rfl, Int.ediv_nonneg hv0 (by omega), qd_low HYab.out hYb0 (by omega) hwa0 hwa1 hv0, qd_top HYab.out hYa0 hYb1 hvY, rfl, HR0.out.1, HR0.out.2⟩
    case round =>
      obtain ⟨q, rh, rfl, rfl, hq0, hlo, hqt, hr, hr0, hr1⟩ := hrel
      have HR := Lib.hid hr
      have HLo := Lib.hid hlo
      have HI := Lib.hid (qd_iff (q := q) HYab.out hvY hwa1 (by omega) hr)
      have er : IntKind.u64.wrap (rh + Ya) = rh + Ya := by rw [wrap_u]; omega
      have em1 : IntKind.u64.wrap (4294967296 * rh) = 4294967296 * rh := by rw [wrap_u]; omega
      have em3 : IntKind.u64.wrap (4294967296 * rh + wa) = 4294967296 * rh + wa := by rw [wrap_u]; omega
      clear hr hlo
      by_cases hbig : v * 4294967296 + wa < q * Y
      · have hq1 : 1 ≤ q := by
          rcases Int.lt_or_le 0 q with h | h
          · omega
          · have := Int.mul_le_mul_of_nonneg_right h (show 0 ≤ Y by omega)
            omega
        have HB := Lib.hid hbig
        have eq1 : IntKind.u64.wrap (q - 1) = q - 1 := by rw [wrap_u]; omega
        have hc := HI.out.2 hbig
        clear hbig
        by_cases hqB : 4294967296 ≤ q
        · clear hc
          by_cases hbr : 4294967296 ≤ rh + Ya
          · have HE := Lib.hid (qd_done hYp (qd_less hYp HB.out) (qd_break (q := q - 1) (rh := rh + Ya) HYab.out hYb0 hYb1 hwa0 (by rw [HR.out, Int.sub_mul]; omega) (by omega) (by omega) hbr))
            go_wp2
            go_meet
            exact ⟨by rw [HE.out], rfl⟩
          · have HR2 := Lib.hid (show rh + Ya = v - (q - 1) * Ya by rw [HR.out, Int.sub_mul]; omega)
            have HLo2 := Lib.hid (qd_less hYp HB.out)
            have hrh' : rh + Ya < 4294967296 := by omega
            go_wp2
            go_round
            case rel => exact ⟨q - 1, rh + Ya, rfl, rfl, by omega, HLo2.out, by omega, HR2.out, by omega, hrh'⟩
            case measure => simp [intOf]; omega
        · have hc2 : 4294967296 * rh + wa < q * Yb := by
            rcases hc with h | h
            · exact absurd h hqB
            · exact h
          have hm2 := half_prod (a := q) (b := Yb) ⟨hq0, by omega⟩ ⟨hYb0, by omega⟩
          have em2 : IntKind.u64.wrap (q * Yb) = q * Yb := by rw [wrap_u]; exact Int.emod_eq_of_lt hm2.1 (by omega)
          clear hc hm2
          by_cases hbr : 4294967296 ≤ rh + Ya
          · have HE := Lib.hid (qd_done hYp (qd_less hYp HB.out) (qd_break (q := q - 1) (rh := rh + Ya) HYab.out hYb0 hYb1 hwa0 (by rw [HR.out, Int.sub_mul]; omega) (by omega) (by omega) hbr))
            go_wp2
            go_meet
            exact ⟨by rw [HE.out], rfl⟩
          · have HR2 := Lib.hid (show rh + Ya = v - (q - 1) * Ya by rw [HR.out, Int.sub_mul]; omega)
            have HLo2 := Lib.hid (qd_less hYp HB.out)
            have hrh' : rh + Ya < 4294967296 := by omega
            go_wp2
            go_round
            case rel => exact ⟨q - 1, rh + Ya, rfl, rfl, by omega, HLo2.out, by omega, HR2.out, by omega, hrh'⟩
            case measure => simp [intOf]; omega
      · have hqB : ¬ 4294967296 ≤ q := fun h => hbig (HI.out.1 (.inl h))
        have hc2 : ¬ 4294967296 * rh + wa < q * Yb := fun h => hbig (HI.out.1 (.inr h))
        have hm2 := half_prod (a := q) (b := Yb) ⟨hq0, by omega⟩ ⟨hYb0, by omega⟩
        have em2 : IntKind.u64.wrap (q * Yb) = q * Yb := by rw [wrap_u]; exact Int.emod_eq_of_lt hm2.1 (by omega)
        have HE := Lib.hid (qd_done hYp HLo.out (Int.not_lt.1 hbig))
        clear hbig hm2
        go_wp2
        go_meet
        exact ⟨by rw [HE.out], rfl⟩
  case rest =>
    obtain ⟨rfl, rfl⟩ := hcut
    obtain ⟨q1, hq1⟩ : ∃ q1 : Int, q1 = (v * 4294967296 + wa) / Y := ⟨_, rfl⟩
    obtain ⟨r1, hr1⟩ : ∃ r1 : Int, r1 = (v * 4294967296 + wa) % Y := ⟨_, rfl⟩
    have hr10 : 0 ≤ r1 := by rw [hr1]; exact Int.emod_nonneg _ (by omega)
    have hr1Y : r1 < Y := by rw [hr1]; exact Int.emod_lt_of_pos _ hYp
    have hq10 : 0 ≤ q1 := by rw [hq1]; exact Int.ediv_nonneg (by omega) (by omega)
    have hq1B : q1 < 4294967296 := by
      rw [hq1]
      exact Int.ediv_lt_of_lt_mul hYp (by omega)
    rw [← hq1]
    obtain ⟨a1, ha1⟩ : ∃ a1 : Int, IntKind.u64.wrap (v * 4294967296) = a1 := ⟨_, rfl⟩
    obtain ⟨a2, ha2⟩ : ∃ a2 : Int, IntKind.u64.wrap (a1 + wa) = a2 := ⟨_, rfl⟩
    obtain ⟨a3, ha3⟩ : ∃ a3 : Int, IntKind.u64.wrap (q1 * Y) = a3 := ⟨_, rfl⟩
    have ha4 : IntKind.u64.wrap (a2 - a3) = r1 := by
      rw [hr1, ← mod_word hq1 hYp (by omega), ← ha2, ← ha3, ← ha1, wrap_u, wrap_u, wrap_u, wrap_u]
      omega
    have hb1 : 0 ≤ r1 / Ya := Int.ediv_nonneg hr10 (by omega)
    have hb2 : r1 / Ya ≤ 4294967297 := qd_top HYab.out hYa0 hYb1 hr1Y
    have eq1 : IntKind.u64.wrap (r1.tdiv Ya) = r1 / Ya := by rw [Int.tdiv_eq_ediv_of_nonneg hr10, wrap_u]; omega
    have hem := Int.emod_add_mul_ediv r1 Ya
    have hem0 := Int.emod_nonneg r1 (show Ya ≠ 0 by omega)
    have hem1 := Int.emod_lt_of_pos r1 (show 0 < Ya by omega)
    have hmul : r1 / Ya * Ya = r1 - r1 % Ya := by rw [Int.mul_comm]; omega
    have hmul0 : 0 ≤ r1 / Ya * Ya := Int.mul_nonneg hb1 (by omega)
    have eq2 : IntKind.u64.wrap (r1 / Ya * Ya) = r1 / Ya * Ya := by rw [wrap_u]; omega
    have eq3 : IntKind.u64.wrap (r1 - r1 / Ya * Ya) = r1 - r1 / Ya * Ya := by rw [wrap_u]; omega
    have HR1 := Lib.hid (show 0 ≤ r1 - r1 / Ya * Ya ∧ r1 - r1 / Ya * Ya < 4294967296 by omega)
    have HQ1 := Lib.hid hq1
    have HRR1 := Lib.hid hr1
    clear hq1 hr1 hem hem0 hem1 hmul hmul0 hqi0 hqi1
    go_upto_block 2 with (fail)
    clear ha1 ha2 ha3 ha4 eq1 eq2 eq3
    go_cut [18] (fun a wx => a = .int .u64 ((r1 * 4294967296 + wb) / Y) ∧ wx = wc)
    case first =>
      go_wp2_with (fail)
      go_loop [18, 16] (fun a b => ∃ q rh : Int, a = .int .u64 q ∧ b = .int .u64 rh ∧ 0 ≤ q ∧ (r1 * 4294967296 + wb) / Y ≤ q ∧ q ≤ 4294967297 ∧ rh = r1 - q * Ya ∧ 0 ≤ rh ∧ rh < 4294967296) (fun a _ => (intOf a).toNat)
      case atStart => exact ⟨_, _, rfl, rfl, Int.ediv_nonneg hr10 (by omega), qd_low HYab.out hYb0 (by omega) hwb0 hwb1 hr10, qd_top HYab.out hYa0 hYb1 hr1Y, rfl, HR1.out.1, HR1.out.2⟩
      case round =>
        obtain ⟨q, rh, rfl, rfl, hq0, hlo, hqt, hr, hr0, hr1⟩ := hrel
        have HR := Lib.hid hr
        have HLo := Lib.hid hlo
        have HI := Lib.hid (qd_iff (q := q) HYab.out hr1Y hwb1 (by omega) hr)
        have er : IntKind.u64.wrap (rh + Ya) = rh + Ya := by rw [wrap_u]; omega
        have em1 : IntKind.u64.wrap (4294967296 * rh) = 4294967296 * rh := by rw [wrap_u]; omega
        have em3 : IntKind.u64.wrap (4294967296 * rh + wb) = 4294967296 * rh + wb := by rw [wrap_u]; omega
        clear hr hlo
        by_cases hbig : r1 * 4294967296 + wb < q * Y
        · have hq1 : 1 ≤ q := by
            rcases Int.lt_or_le 0 q with h | h
            · omega
            · have := Int.mul_le_mul_of_nonneg_right h (show 0 ≤ Y by omega)
              omega
          have HB := Lib.hid hbig
          have eq1 : IntKind.u64.wrap (q - 1) = q - 1 := by rw [wrap_u]; omega
          have hc := HI.out.2 hbig
          clear hbig
          by_cases hqB : 4294967296 ≤ q
          · clear hc
            by_cases hbr : 4294967296 ≤ rh + Ya
            · have HE := Lib.hid (qd_done hYp (qd_less hYp HB.out) (qd_break (q := q - 1) (rh := rh + Ya) HYab.out hYb0 hYb1 hwb0 (by rw [HR.out, Int.sub_mul]; omega) (by omega) (by omega) hbr))
              go_wp2
              go_meet
              exact ⟨by rw [HE.out], rfl⟩
            · have HR2 := Lib.hid (show rh + Ya = r1 - (q - 1) * Ya by rw [HR.out, Int.sub_mul]; omega)
              have HLo2 := Lib.hid (qd_less hYp HB.out)
              have hrh' : rh + Ya < 4294967296 := by omega
              go_wp2
              go_round
              case rel => exact ⟨q - 1, rh + Ya, rfl, rfl, by omega, HLo2.out, by omega, HR2.out, by omega, hrh'⟩
              case measure => simp [intOf]; omega
          · have hc2 : 4294967296 * rh + wb < q * Yb := by
              rcases hc with h | h
              · exact absurd h hqB
              · exact h
            have hm2 := half_prod (a := q) (b := Yb) ⟨hq0, by omega⟩ ⟨hYb0, by omega⟩
            have em2 : IntKind.u64.wrap (q * Yb) = q * Yb := by rw [wrap_u]; exact Int.emod_eq_of_lt hm2.1 (by omega)
            clear hc hm2
            by_cases hbr : 4294967296 ≤ rh + Ya
            · have HE := Lib.hid (qd_done hYp (qd_less hYp HB.out) (qd_break (q := q - 1) (rh := rh + Ya) HYab.out hYb0 hYb1 hwb0 (by rw [HR.out, Int.sub_mul]; omega) (by omega) (by omega) hbr))
              go_wp2
              go_meet
              exact ⟨by rw [HE.out], rfl⟩
            · have HR2 := Lib.hid (show rh + Ya = r1 - (q - 1) * Ya by rw [HR.out, Int.sub_mul]; omega)
              have HLo2 := Lib.hid (qd_less hYp HB.out)
              have hrh' : rh + Ya < 4294967296 := by omega
              go_wp2
              go_round
              case rel => exact ⟨q - 1, rh + Ya, rfl, rfl, by omega, HLo2.out, by omega, HR2.out, by omega, hrh'⟩
              case measure => simp [intOf]; omega
        · have hqB : ¬ 4294967296 ≤ q := fun h => hbig (HI.out.1 (.inl h))
          have hc2 : ¬ 4294967296 * rh + wb < q * Yb := fun h => hbig (HI.out.1 (.inr h))
          have hm2 := half_prod (a := q) (b := Yb) ⟨hq0, by omega⟩ ⟨hYb0, by omega⟩
          have em2 : IntKind.u64.wrap (q * Yb) = q * Yb := by rw [wrap_u]; exact Int.emod_eq_of_lt hm2.1 (by omega)
          have HE := Lib.hid (qd_done hYp HLo.out (Int.not_lt.1 hbig))
          clear hbig hm2
          go_wp2
          go_meet
          exact ⟨by rw [HE.out], rfl⟩
    case rest =>
      obtain ⟨rfl, hwc⟩ := hcut
      obtain rfl := hwc.symm
      obtain ⟨q0, hq0⟩ : ∃ q0 : Int, q0 = (r1 * 4294967296 + wb) / Y := ⟨_, rfl⟩
      obtain ⟨r0, hr0⟩ : ∃ r0 : Int, r0 = (r1 * 4294967296 + wb) % Y := ⟨_, rfl⟩
      have hr00 : 0 ≤ r0 := by rw [hr0]; exact Int.emod_nonneg _ (by omega)
      have hr0Y : r0 < Y := by rw [hr0]; exact Int.emod_lt_of_pos _ hYp
      have hq00 : 0 ≤ q0 := by rw [hq0]; exact Int.ediv_nonneg (by omega) (by omega)
      have hq0B : q0 < 4294967296 := by
        rw [hq0]
        exact Int.ediv_lt_of_lt_mul hYp (by omega)
      rw [← hq0]
      obtain ⟨a1, ha1⟩ : ∃ a1 : Int, IntKind.u64.wrap (r1 * 4294967296) = a1 := ⟨_, rfl⟩
      obtain ⟨a2, ha2⟩ : ∃ a2 : Int, IntKind.u64.wrap (a1 + wb) = a2 := ⟨_, rfl⟩
      obtain ⟨a3, ha3⟩ : ∃ a3 : Int, IntKind.u64.wrap (q0 * Y) = a3 := ⟨_, rfl⟩
      have ha4 : IntKind.u64.wrap (a2 - a3) = r0 := by
        rw [hr0, ← mod_word hq0 hYp (by omega), ← ha2, ← ha3, ← ha1, wrap_u, wrap_u, wrap_u, wrap_u]
        omega
      have hb1 : IntKind.u64.wrap (q1 * 4294967296) = q1 * 4294967296 := by rw [wrap_u]; omega
      have hb2 : IntKind.u64.wrap (q1 * 4294967296 + q0) = q1 * 4294967296 + q0 := by rw [wrap_u]; omega
      have em : min s 64 = s := by omega
      have hW := Lib.hid (div_whole (V := h * 18446744073709551616 + l) (Y := Y) (p := 2 ^ s) (v := v) (w1 := wa) (w0 := wb) (q1 := q1) (r1 := r1) (q0 := q0) (r0 := r0) (y := y) (by rw [HVs.out, HT.out]) HY.out (by omega) (Int.pow_pos (by decide)) HQ1.out HRR1.out hq0 hr0)
      clear hq0 hr0
      go_wp2
      go_ret2
      exact ⟨by rw [← hW.out.1, ← hW.out.2]; rfl, rfl⟩
theorem div64_any (h l y : Int) (hh : U h) (hl : U l) (hy : U y) (hlt : h < y) (w : World) :
    Calls Tryd.prog 34 #[.int .u64 h, .int .u64 l, .int .u64 y] w fun e w' => e = .returned (.tuple #[.int .u64 ((h * 18446744073709551616 + l) / y), .int .u64 ((h * 18446744073709551616 + l) % y)]) ∧ ∃ n, w' = w.drewN n := by
  by_cases h0 : h = 0
  · subst h0
    rw [Int.zero_mul, Int.zero_add]
    exact div64_zero l y hl hy hlt w
  · exact (div64_big h l y hh hl hy (by unfold U at hh; omega) hlt w).mono fun e w' ⟨he, hw⟩ => ⟨he, 0, hw⟩
end Go.Proofs.YtpdmpmlieligoaaDoor
