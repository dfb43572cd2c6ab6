/-
  Contracts of the reference of layer 3, fourth part: the value of an integer.
-/
import Derived.Test.YtdcckjpeibnkbaaDoorRef03c
import Derived.Test.YtdcckjpeibnkbaaDoorLimbs
namespace Go.Proofs.YtdcckjpeibnkbaaDoor
open Go.RowKit

def ValRel (W : World) (ls : List Int) (o i : Value) (wr : World) : Prop :=
  ∃ (k : Nat) (os : List Int), i = .int .i64 k ∧ k ≤ ls.length ∧ OwnK wr (W.heap.size + 1) 3 .i64 o os ∧ Dg os ∧ os.length = 4 * k ∧ ev os = uv (ls.take k) ∧ Below (W.heap.size + 1) (Res1 W) wr
def ValRel2 (W : World) (ls : List Int) (k : Nat) (o u j : Value) (wr : World) : Prop :=
  ∃ (t : Nat) (os : List Int) (m : Int), j = .int .i64 t ∧ t ≤ 4 ∧ u = .int .u64 m ∧ OwnK wr (W.heap.size + 1) 3 .i64 o os ∧ Dg os ∧ os.length = 4 * k + t ∧ 0 ≤ m ∧ m < 65536 ^ (4 - t) ∧
    ev os + 65536 ^ os.length * m = uv (ls.take (k + 1)) ∧ Below (W.heap.size + 1) (Res1 W) wr
theorem val_step {os : List Int} {m n : Int} {t : Nat} (ht : t < 4) (hm : m < 65536 ^ (4 - t)) (he : ev os + 65536 ^ os.length * m = n) :
    m / 65536 < 65536 ^ (4 - (t + 1)) ∧ ev (os ++ [m % 65536]) + 65536 ^ (os.length + 1) * (m / 65536) = n := by
  refine ⟨?_, ?_⟩
  · rw [show 4 - t = (4 - (t + 1)) + 1 by omega, Int.pow_succ] at hm
    generalize (65536 : Int) ^ (4 - (t + 1)) = q at hm ⊢
    omega
  · rw [ev_snoc, Int.pow_succ, Int.mul_assoc]
    have : 65536 ^ os.length * (m % 65536) + 65536 ^ os.length * (65536 * (m / 65536)) = 65536 ^ os.length * m := by rw [← Int.mul_add]; congr 1; omega
    omega
theorem val_in {os : List Int} {k : Nat} {ls : List Int} (hk : k < ls.length) (hl : os.length = 4 * k) (he : ev os = uv (ls.take k)) : ev os + 65536 ^ os.length * ls[k] = uv (ls.take (k + 1)) := by
  rw [uv_take_succ hk, hl, ← M_digits, he]
theorem u_lt (m : Int) (h : U m) : m < 65536 ^ (4 - 0) := by unfold U at h; simp; omega
theorem r3power4_any (n : Nat) (S : Nat → Prop) (w : World) (hk : n ≤ 1000) (hS : ∀ b, w.heap.size ≤ b → S b) :
    Calls Tryd.prog 40 #[.int .i64 (4 * (n : Int))] w (GivesNum w S (4 * n + 1) (65536 ^ (4 * n))) := by
  have h := r3power_any (4 * n) S w (by omega) hS
  rw [Int.natCast_mul] at h
  exact h
set_option maxHeartbeats 4000000 in
theorem r3value_any (A : Option Addr) (c : Nat) (ls : List Int) (S SA : Nat → Prop) (w : World) (ha : SlR w SA .u64 A ls) (hu : Us ls) (hl : ls.length ≤ 1000) (hS : ∀ b, w.heap.size ≤ b → S b) :
    Calls Tryd.prog 25 #[.slice A ls.length c] w (GivesNum w S (4 * ls.length + 2) (sv ls)) := by
  obtain ⟨i0, hi0, hz0, hz1, hz2⟩ := info_parts infoInt
  go_enter Tryd.func25, Tryd.ntmps25
  go_wp2
  go_loopw [3, 4] (fun o i wr => ValRel w ls o i wr) (fun _ i _ => ls.length - (intOf i).toNat)
  case atStart => exact ⟨0, [], rfl, Nat.zero_le _, OwnK.nil_ _ _ _ _, Dg.nil_, rfl, rfl, Below.refl _ _⟩
  case round =>
    obtain ⟨k, os, rfl, hk, hown, hdo, hlo, hev, hbl⟩ := hrel
    obtain ⟨c0, c1, f0, f1, hbw, hsz⟩ := res1_kept hbl
    by_cases hgo : k < ls.length
    · obtain ⟨b, off, rfl, _, hcell⟩ := (ha.next hbw).at_ hgo
      have HI := Lib.hid (val_in hgo hlo hev)
      have HU := Lib.hid (u_lt _ (hu.at_ hgo))
      have hnn := (hu.at_ hgo).1
      have HO := Lib.hid hown
      have HD := Lib.hid hdo
      have HLO := Lib.hid hlo
      clear hown hdo hlo hev
      go_wp2
      go_loopw [3, 5, 6] (fun o u j wr' => ValRel2 w ls k o u j wr') (fun _ _ j _ => 4 - (intOf j).toNat)
      case atStart => exact ⟨0, os, ls[k], rfl, by decide, rfl, HO.out, HD.out, by rw [HLO.out]; rfl, hnn, HU.out, HI.out, hbl⟩
      case round =>
        clear hcell c0 c1 f0 f1 hbw hsz hbl
        obtain ⟨t, os2, m, rfl, ht, rfl, hown2, hdo2, hlo2, h0, hm, hev2, hbl2⟩ := hrel
        have HO2 := Lib.hid hown2
        have HD2 := Lib.hid hdo2
        have HLO2 := Lib.hid hlo2
        have HM := Lib.hid hm
        have HE2 := Lib.hid hev2
        have hsz2 : w.heap.size + 1 ≤ _ := (res1_kept hbl2).2.2.2.2.2
        have hlen : os2.length ≤ 1000000000 := by omega
        by_cases hgo2 : t < 4
        · obtain ⟨k1, k2⟩ := val_step hgo2 hm hev2
          have K1 := Lib.hid k1
          have K2 := Lib.hid k2
          have hm64 : m ≤ 18446744073709551615 := by
            have : (65536 : Int) ^ (4 - t) ≤ 65536 ^ 4 := pow_le_pow (by omega)
            have e : (65536 : Int) ^ 4 = 18446744073709551616 := by decide
            omega
          clear hown2 hdo2 hlo2 hm hev2 k1 k2
          go_wp2_with (at_builtin; refine wp_app1 rfl (.tmp 22) (.tmp 26) 28 rfl (w.heap.size + 1) 3 .i64 i0 _ Tryd.underlying28 hi0 hz0 hz1 hz2 rfl _ os2 _ rfl HO2.out rfl hlen hsz2 ?_; intro v' w1 hown1 hb1)
          go_roundw
          case rel => exact ⟨t + 1, os2 ++ [m % 65536], m / 65536, by go_num, hgo2, rfl, hown1, HD2.out.snoc (by omega) (by omega), by rw [List.length_append, HLO2.out]; rfl, by omega, K1.out, by rw [List.length_append]; exact K2.out, hbl2.trans hb1⟩
          case measure => simp [intOf]; omega
        · have ht4 : t = 4 := by omega
          subst ht4
          have hm0 : m = 0 := by simp at hm; omega
          have HF := Lib.hid (show ev os2 = uv (ls.take (k + 1)) by rw [← hev2, hm0]; omega)
          clear hown2 hdo2 hlo2 hm hev2 hm0 h0
          go_wp2
          go_roundw
          case rel => exact ⟨k + 1, os2, by go_num, hgo, HO2.out, HD2.out, by rw [HLO2.out]; omega, HF.out, hbl2⟩
          case measure => simp [intOf]; omega
    · have hkl : ls.length ≤ k := by omega
      obtain ⟨A', c', rfl, hcap, _, hsl⟩ := hown.form
      have HV := Lib.hid (show ev os = ((uv ls).natAbs : Int) by
        have := uv_nonneg hu
        rw [hev, List.take_of_length_le hkl]; omega)
      have HS1 := Lib.hid (show uv ls ≠ 0 → 1 = (uv ls).sign from fun hne => (sign_pos (by have := uv_nonneg hu; omega)).symm)
      have hlen : os.length ≤ 1000000 := by omega
      have HLO := Lib.hid hlo
      have HD := Lib.hid hdo
      have HU := Lib.hid hu
      clear hown hev hlo hdo hu hgo
      go_wp2_with (fail)
      refine (r3make16_any 1 A' c' os (uv ls) (fun b => w.heap.size + 1 ≤ b) _ hsl hlen hcap HD.out HV.out HS1.out).mono ?_
      rintro e w2 ⟨_, rfl, ⟨A2, c2, ds2, rfl, hc2, hs2, hn2, he2, hl2⟩, hb2⟩
      have HV2 := Lib.hid he2
      clear he2
      obtain ⟨hcd, hfd⟩ := cell_below hb2
      have ha2 := (ha.next hbw).next hb2
      have hq : w.heap.size < w2.heap.size := by have := hb2.size; omega
      have hbw2 : Below w.heap.size w w2 := hbw.trans (hb2.mono (by omega))
      have d0 := (hcd w.heap.size 0 hsz).trans c0
      have d1 := (hcd w.heap.size 1 hsz).trans c1
      have e0 := (hfd w.heap.size 0 hsz).trans f0
      have e1 := (hfd w.heap.size 1 hsz).trans f1
      have R := num_stored_at (S := S) (L := os.length) (M := 4 * ls.length + 2) (Nat.le_refl w.heap.size) (fun b hb => ⟨by omega, hS b (by omega)⟩) hc2 hs2 hn2 HV2.out hl2 (by rw [HLO.out]; omega) hbw2 (.int .i64 (uv ls).sign) (.slice A2 ds2.length c2)
      have RC := two_cells d0 d1 (.int .i64 (uv ls).sign) (.slice A2 ds2.length c2)
      have RR := Lib.hid (And.intro (R.1.next (Below.alloc (Below.refl _ _) (Nat.le_refl _) (.cells #[.int .i64 (uv ls).sign, .slice A2 ds2.length c2] 30))) (R.2.alloc R.2.size (.cells #[.int .i64 (uv ls).sign, .slice A2 ds2.length c2] 30)))
      have RC0 := Lib.hid ((World.cell?_alloc_lt _ (.cells #[.int .i64 (uv ls).sign, .slice A2 ds2.length c2] 30) _ (lt_of_cell RC.1)).trans RC.1)
      have RC1 := Lib.hid ((World.cell?_alloc_lt _ (.cells #[.int .i64 (uv ls).sign, .slice A2 ds2.length c2] 30) _ (lt_of_cell RC.2)).trans RC.2)
      clear RC
      clear R hcd hfd c0 c1 f0 f1
      rcases Nat.eq_zero_or_pos ls.length with h0 | h0
      · have hz : ls = [] := List.eq_nil_of_length_eq_zero h0
        have HSV := Lib.hid (show sv ls = uv ls by rw [hz]; rfl)
        have t0 : decide (0 < ls.length) = false := decide_eq_false (by omega)
        clear hz
        go_wp2
        have R := RR.out
        have r0 := RC0.out
        have r1 := RC1.out
        rw [← HSV.out] at R r0 r1
        rw [← HSV.out]
        clear RR HV2 HV HS1 HSV HLO h0 RC0 RC1
        refine bodyPost_ret (v := .agg #[.int .i64 (sv ls).sign, .slice A2 ds2.length c2]) (by simp [results, Tryd.results25, go_sem, d0, d1, hq]) rfl ⟨_, rfl, R.1, R.2⟩
      · obtain ⟨b, off, rfl, _, hcell⟩ := ha2.at_ (show ls.length - 1 < ls.length by omega)
        have hblt := lt_of_cell hcell
        have hcell' := (World.cell?_alloc_lt w2 (.cells #[.int .i64 (uv ls).sign, .slice A2 ds2.length c2] 30) ⟨b, off + (ls.length - 1), none⟩ hblt).trans hcell
        have HW4 := Lib.hid (show Below w.heap.size w (w2.alloc (.cells #[.int .i64 (uv ls).sign, .slice A2 ds2.length c2] 30)) from hbw2.alloc (by omega) _)
        have HN4 := Lib.hid (show NumR (w2.alloc (.cells #[.int .i64 (uv ls).sign, .slice A2 ds2.length c2] 30)) (fun b => b ≠ w.heap.size ∧ S b) (4 * ls.length) (.agg #[.int .i64 (uv ls).sign, .slice A2 ds2.length c2]) (uv ls) from
          ⟨A2, c2, ds2, rfl, hc2, (hs2.next (Below.alloc (Below.refl _ _) (Nat.le_refl _) _)).imp (fun b hb => ⟨by omega, hS b (by omega)⟩), hn2, HV2.out, by have := HLO.out; omega⟩)
        by_cases htop : ls[ls.length - 1] < 9223372036854775808
        · have HSV := Lib.hid (show sv ls = uv ls by rw [sv_top HU.out h0, if_pos htop])
          go_wp2
          have R := RR.out
          rw [← HSV.out] at R
          rw [← HSV.out]
          clear RR HV2 HV HS1 HSV HLO RC0 RC1 HW4 HN4
          exact bodyPost_ret (v := .agg #[.int .i64 (sv ls).sign, .slice A2 ds2.length c2]) (by simp [results, Tryd.results25, go_sem, d0, d1, hq]) rfl ⟨_, rfl, R.1, R.2⟩
        · have HSV := Lib.hid (show sv ls = uv ls - 65536 ^ (4 * ls.length) by rw [sv_top HU.out h0, if_neg htop])
          have htop' : 9223372036854775808 ≤ ls[ls.length - 1] := by omega
          have e4 : IntKind.i64.wrap (4 * (ls.length : Int)) = 4 * (ls.length : Int) := i64_small (by omega) (by omega)
          have HSS := Lib.hid hS
          clear htop hS RR RC0 RC1 HV HS1
          go_wp2_with (fail)
          go_region_law (first
            | (go_simp; go_at_call 40; refine (r3power4_any ls.length (fun b => b ≠ w.heap.size ∧ S b) _ hl (by intro b hb; simp at hb; exact ⟨by omega, HSS.out b (by omega)⟩)).mono ?_; rintro e w3 ⟨v3, rfl, hn3, hb3⟩; obtain ⟨hce, hfe⟩ := cell_below hb3; have hz3 : w2.heap.size < w3.heap.size := (by (have := hb3.size; simp at this; omega)); have hz31 : w.heap.size < w3.heap.size := (by omega); have hz32 : w.heap.size < w2.heap.size + 1 := (by omega))
            | (go_simp; go_at_call 28; refine (r3sub_any _ v3 (uv ls) (65536 ^ (4 * ls.length)) (4 * ls.length) (4 * ls.length + 1) (fun b => b ≠ w.heap.size ∧ S b) _ (HN4.out.next (Below.trans (Below.drew (Below.refl _ _)) hb3)) hn3 (by omega) (by omega) (fun b hb => ⟨by omega, HSS.out b (by omega)⟩)).mono ?_; rintro e w5 ⟨_, rfl, ⟨A5, c5, ds5, rfl, hc5, hs5, hn5, he5, hl5⟩, hb5⟩; obtain ⟨hcg, hfg⟩ := cell_below hb5; have HV5 := Lib.hid he5; clear he5; have hz5 : w.heap.size < w5.heap.size := by (have := hb5.size; omega)))
          all_goals go_wp2
          all_goals
            have hbw5 : Below w.heap.size w w5 := ((HW4.out.drew).trans (Below.mono hb3 (by simp; omega))).trans (hb5.mono (by omega))
            have R := num_stored_at (S := S) (q := w.heap.size) (M := 4 * ls.length + 2) (Nat.le_refl _) (fun b h => h) hc5 hs5 hn5 HV5.out hl5 (by omega) hbw5 (.int .i64 (uv ls - 65536 ^ (4 * ls.length)).sign) (.slice A5 ds5.length c5)
            have g0 : w5.cell? ⟨w.heap.size, 0, none⟩ = some (.int .i64 0) := by rw [hcg _ _ hz31, hce _ _ (by simp; omega)]; simp [go_sem, d0, hq]
            have g1 : w5.cell? ⟨w.heap.size, 1, none⟩ = some (.slice none 0 0) := by rw [hcg _ _ hz31, hce _ _ (by simp; omega)]; simp [go_sem, d1, hq]
            rw [← HSV.out] at R
            rw [← HSV.out]
            clear HSS HV2 HV5 HSV HLO HW4 HN4
            exact bodyPost_ret (v := .agg #[.int .i64 (sv ls).sign, .slice A5 ds5.length c5]) (by simp [results, Tryd.results25, go_sem, g0, g1]) rfl ⟨_, rfl, R.1, R.2⟩
end Go.Proofs.YtdcckjpeibnkbaaDoor
