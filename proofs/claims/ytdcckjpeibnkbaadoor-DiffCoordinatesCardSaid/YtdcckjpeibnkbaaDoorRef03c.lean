/-
  Contracts of the reference of layer 3, third part: difference, product, conversions.
-/
import Derived.Test.YtdcckjpeibnkbaaDoorRef03b
import Derived.Test.YtdcckjpeibnkbaaDoorArith
namespace Go.Proofs.YtdcckjpeibnkbaaDoor
open Go.RowKit

set_option maxHeartbeats 1000000 in
theorem r3sub_any (va vb : Value) (x y : Int) (L M : Nat) (S : Nat → Prop) (w : World) (ha : NumR w S L va x) (hb : NumR w S M vb y) (hL : L ≤ 900000) (hM : M ≤ 900000) (hS : ∀ b, w.heap.size ≤ b → S b) :
    Calls Tryd.prog 28 #[va, vb] w (GivesNum w S (max L M + 1) (x - y)) := by
  have ha' := ha.lt.imp (T := fun b => b ≠ w.heap.size + 1 + 1 ∧ S b) (fun b h => ⟨by omega, h.1⟩)
  have hb' := hb.lt.imp (T := fun b => b ≠ w.heap.size + 1 + 1 ∧ S b) (fun b h => ⟨by omega, h.1⟩)
  obtain ⟨A, c, da, rfl, hc, hs, hn, he, hl⟩ := ha
  obtain ⟨B, d, db, rfl, hd, hs2, hn2, he2, hl2⟩ := hb
  have hb3 := box3_below w x.sign A da.length c y.sign B db.length d
  have HSS := Lib.hid hS
  have HXY := Lib.hid (Int.sub_eq_add_neg (a := x) (b := y))
  clear hS he he2 hs hs2 hn hn2
  go_enter Tryd.func28, Tryd.ntmps28
  go_wp2_with (fail)
  go_region_law (first
    | (go_simp; go_at_call 23; refine (r3neg_any _ y M (fun b => b ≠ w.heap.size + 1 + 1 ∧ S b) _ (hb'.next (by first | exact hb3 | exact hb3.drew | exact below_drewN' hb3 _))).mono ?_; rintro e w1 ⟨v1, rfl, hn1, hb1⟩; obtain ⟨hcc, hff⟩ := cell_below hb1; have hz1 : w.heap.size + 1 + 1 < w1.heap.size := by (have := hb1.size; simp at this; omega))
    | (go_simp; go_at_call 26; refine (r3add_any _ v1 x (-y) L M (fun b => b ≠ w.heap.size + 1 + 1 ∧ S b) _ ((ha'.next hb3.drew).next hb1) hn1 hL hM (fun b hb => ⟨by omega, HSS.out b (by omega)⟩)).mono ?_; rintro e w2 ⟨_, rfl, ⟨A2, c2, ds2, rfl, hc2, hs3, hn3, he3, hl3⟩, hb2⟩; obtain ⟨hcd, hfd⟩ := cell_below hb2; have HV2 := Lib.hid he3; clear he3; have hz2 : w.heap.size + 1 + 1 < w2.heap.size := by (have := hb2.size; omega)))
  all_goals go_wp2
  all_goals
    have hbw2 : Below w.heap.size w w2 := (Below.trans hb3.drew (Below.mono hb1 (by simp; omega))).trans (hb2.mono (by omega))
    have R := num_stored (fun b h => h) hc2 hs3 hn3 HV2.out hl3 (Nat.le_refl _) hbw2 (.int .i64 (x + -y).sign) (.slice A2 ds2.length c2)
    rw [HXY.out]
    clear HSS HV2 HXY
    refine bodyPost_ret (v := .agg #[.int .i64 (x + -y).sign, .slice A2 ds2.length c2]) (by simp [results, Tryd.results28, go_sem, hcd, hcc, hz1]) rfl ⟨_, rfl, R.1, R.2⟩
theorem r3power_any (k : Nat) (S : Nat → Prop) (w : World) (hk : k ≤ 900000) (hS : ∀ b, w.heap.size ≤ b → S b) :
    Calls Tryd.prog 40 #[.int .i64 k] w (GivesNum w S (k + 1) (65536 ^ k)) := by
  obtain ⟨i0, hi0, hz0, hz1, hz2⟩ := info_parts infoInt
  have HS := Lib.hid (sign_pos (pow_pos' k)).symm
  have HV := Lib.hid (show ev (List.replicate k 0 ++ [1]) = (((65536 : Int) ^ k).natAbs : Int) by rw [power_ev]; have := pow_pos' k; omega)
  go_enter Tryd.func40, Tryd.ntmps40
  go_wp2
  go_loopw [3, 4] (fun o i wr => ∃ j : Nat, j ≤ k ∧ i = .int .i64 j ∧ OwnK wr (w.heap.size + 1) 3 .i64 o (List.replicate j 0) ∧ Below (w.heap.size + 1) (Res1 w) wr) (fun _ i _ => k - (intOf i).toNat)
  case atStart => exact ⟨0, Nat.zero_le _, rfl, OwnK.nil_ _ _ _ _, Below.refl _ _⟩
  case round =>
    obtain ⟨j, hj, rfl, hown, hbl⟩ := hrel
    have HO := Lib.hid hown
    have hlen : (List.replicate j (0 : Int)).length ≤ 1000000000 := by rw [List.length_replicate]; omega
    have hsz : w.heap.size + 1 ≤ wr.heap.size := by have := (res1_kept hbl).2.2.2.2.2; omega
    obtain ⟨c0, c1, f0, f1, hbw, _⟩ := res1_kept hbl
    clear hown
    by_cases hgo : j < k
    · go_wp2_with (at_builtin; refine wp_app1 rfl (.tmp 10) (.tmp 11) 28 rfl (w.heap.size + 1) 3 .i64 i0 _ Tryd.underlying28 hi0 hz0 hz1 hz2 rfl _ _ _ rfl HO.out rfl hlen hsz ?_; intro v' w1 hown1 hb1)
      go_roundw
      case rel => exact ⟨j + 1, hgo, by go_num, by rw [List.replicate_succ']; exact hown1, hbl.trans hb1⟩
      case measure => simp [intOf]; omega
    · have hjk : j = k := by omega
      subst hjk
      go_wp2_with (at_builtin; refine wp_app1 rfl (.tmp 13) (.tmp 14) 28 rfl (w.heap.size + 1) 3 .i64 i0 _ Tryd.underlying28 hi0 hz0 hz1 hz2 rfl _ _ _ rfl HO.out rfl hlen hsz ?_; intro v' w1 hown1 hb1; generalize hos : (List.replicate j 0 ++ [1] : List Int) = os at hown1; have HQ := Lib.hid hos; clear hos; obtain ⟨A', c', rfl, hcap, _, hsl⟩ := hown1.form; obtain ⟨d0, d1, g0, g1, hbw1, _⟩ := res1_kept (hbl.trans hb1))
      have R := num_stored_at (S := S) (x := 65536 ^ j) (L := j + 1) (Nat.le_refl w.heap.size) (fun b hb => ⟨by omega, hS b (by omega)⟩) hcap hsl (by rw [← HQ.out]; exact power_nf j) (by rw [← HQ.out]; exact HV.out) (by rw [← HQ.out]; simp) (Nat.le_refl _) hbw1 (.int .i64 1) (.slice A' os.length c')
      rw [← HS.out] at R
      clear HS HV HO hown1 HQ
      exact bodyPost_ret (v := .agg #[.int .i64 1, .slice A' os.length c']) (by simp [results, Tryd.results40, go_sem, d0, d1]) rfl ⟨_, rfl, R.1, R.2⟩
/-- The digits that the conversion of a word has gathered. -/
def WordRel (W : World) (n : Int) (u o : Value) (wr : World) : Prop :=
  ∃ (os : List Int) (m : Int), u = .int .u64 m ∧ OwnK wr (W.heap.size + 1) 3 .i64 o os ∧ Dg os ∧ 0 ≤ m ∧ os.length ≤ 4 ∧ m < 65536 ^ (4 - os.length) ∧ ev os + 65536 ^ os.length * m = n ∧ Below (W.heap.size + 1) (Res1 W) wr
theorem word_step {os : List Int} {m n : Int} (h0 : 0 < m) (hl : os.length ≤ 4) (hm : m < 65536 ^ (4 - os.length)) (he : ev os + 65536 ^ os.length * m = n) :
    os.length < 4 ∧ m / 65536 < 65536 ^ (4 - (os.length + 1)) ∧ ev (os ++ [m % 65536]) + 65536 ^ (os.length + 1) * (m / 65536) = n := by
  have hl4 : os.length < 4 := by
    rcases Nat.lt_or_ge os.length 4 with h | h
    · exact h
    · rw [show 4 - os.length = 0 by omega] at hm; simp at hm; omega
  refine ⟨hl4, ?_, ?_⟩
  · rw [show 4 - os.length = (4 - (os.length + 1)) + 1 by omega, Int.pow_succ] at hm
    generalize (65536 : Int) ^ (4 - (os.length + 1)) = q at hm ⊢
    omega
  · rw [ev_snoc, Int.pow_succ, Int.mul_assoc]
    have : 65536 ^ os.length * (m % 65536) + 65536 ^ os.length * (65536 * (m / 65536)) = 65536 ^ os.length * m := by rw [← Int.mul_add]; congr 1; omega
    omega
theorem r3int_any (x : Int) (T : Nat → Prop) (w : World) (hS : ∀ b, w.heap.size ≤ b → T b) (hx : S x) :
    Calls Tryd.prog 32 #[.int .i64 x] w (GivesNum w T 4 x) := by
  obtain ⟨i0, hi0, hz0, hz1, hz2⟩ := info_parts infoInt
  have HM1 := Lib.hid (show (x.natAbs : Int) < 65536 ^ (4 - ([] : List Int).length) by unfold S at hx; simp; omega)
  by_cases h : x < 0
  rotate_left
  have h1 : 0 ≤ x := by omega
  have H0 := Lib.hid (show IntKind.u64.wrap x = (x.natAbs : Int) by rw [nonneg_wrap hx h1]; omega)
  have HS := Lib.hid (show x ≠ 0 → 1 = x.sign from fun hne => (sign_pos (by omega)).symm)
  have h5 : decide (x < 0) = false := decide_eq_false h
  clear h h1
  rotate_left
  have H0 := Lib.hid (show IntKind.u64.wrap (-IntKind.u64.wrap x) = (x.natAbs : Int) by rw [abs_wrap hx h]; omega)
  have HS := Lib.hid (show x ≠ 0 → -1 = x.sign from fun _ => (sign_neg h).symm)
  all_goals
    go_enter Tryd.func32, Tryd.ntmps32
    go_wp2
    go_loopw [3, 5] (fun u o wr => WordRel w (x.natAbs : Int) u o wr) (fun u _ _ => (intOf u).toNat)
    case atStart => exact ⟨[], _, rfl, OwnK.nil_ _ _ _ _, Dg.nil_, by rw [H0.out]; omega, by decide, by rw [H0.out]; exact HM1.out, by rw [H0.out]; simp [ev], Below.refl _ _⟩
    case round =>
      obtain ⟨os, m, rfl, hown, hdo, h0, hl4, hlt, hev, hbl⟩ := hrel
      have HO := Lib.hid hown
      have HE := Lib.hid hev
      have HD := Lib.hid hdo
      have HL := Lib.hid hlt
      obtain ⟨c0, c1, f0, f1, hbw, hsz⟩ := res1_kept hbl
      have hlen : os.length ≤ 1000000000 := by omega
      have hm64 : m ≤ 18446744073709551615 := by
        have : (65536 : Int) ^ (4 - os.length) ≤ 65536 ^ 4 := pow_le_pow (by omega)
        have e : (65536 : Int) ^ 4 = 18446744073709551616 := by decide
        omega
      by_cases hgo : 0 < m
      · obtain ⟨k1, k2, k3⟩ := word_step hgo hl4 hlt hev
        have K2 := Lib.hid k2
        have K3 := Lib.hid k3
        have hdv : m / 65536 < m := by omega
        clear hown hev hdo hlt k2 k3
        go_wp2_with (at_builtin; refine wp_app1 rfl (.tmp 14) (.tmp 18) 28 rfl (w.heap.size + 1) 3 .i64 i0 _ Tryd.underlying28 hi0 hz0 hz1 hz2 rfl _ os _ rfl HO.out rfl hlen (by omega) ?_; intro v' w1 hown1 hb1)
        go_roundw
        case rel => exact ⟨os ++ [m % 65536], m / 65536, rfl, hown1, HD.out.snoc (by omega) (by omega), by omega, by simp; omega, by rw [List.length_append]; exact K2.out, by rw [List.length_append]; exact K3.out, hbl.trans hb1⟩
        case measure => simp [intOf]; omega
      · have hm : m = 0 := by omega
        subst hm
        obtain ⟨A', c', rfl, hcap, _, hsl⟩ := hown.form
        have HV := Lib.hid (show ev os = (x.natAbs : Int) by omega)
        clear hown hev hdo hlt HE HL HO
        go_wp2_with (fail)
        refine (r3make16_any _ A' c' os x (fun b => w.heap.size + 1 ≤ b) _ hsl (by omega) hcap HD.out HV.out HS.out).mono ?_
        rintro e w2 ⟨_, rfl, ⟨A2, c2, ds2, rfl, hc2, hs2, hn2, he2, hl2⟩, hb2⟩
        have HV2 := Lib.hid he2
        clear he2
        obtain ⟨hcd, hfd⟩ := cell_below hb2
        go_wp2
        have R := num_stored_at (S := T) (L := 4) (Nat.le_refl w.heap.size) (fun b hb => ⟨by omega, hS b (by omega)⟩) hc2 hs2 hn2 HV2.out (by omega) (Nat.le_refl _) (hbw.trans (hb2.mono (by omega))) (.int .i64 x.sign) (.slice A2 ds2.length c2)
        clear HV2 HV HS
        exact bodyPost_ret (v := .agg #[.int .i64 x.sign, .slice A2 ds2.length c2]) (by simp [results, Tryd.results32, go_sem, hcd, hsz, c0, c1]) rfl ⟨_, rfl, R.1, R.2⟩
end Go.Proofs.YtdcckjpeibnkbaaDoor
