/-
  The laws of layer 4, third part: Digits.
-/
import Derived.Test.YtpdmpmlieligoaaDoorLaw4b
import Derived.Test.YtpdmpmlieligoaaDoorMem3
import Derived.Deep.DeepCutAuto
import Derived.Deep.CutRange
namespace Go.Proofs.YtpdmpmlieligoaaDoor
open Go.RowKit

theorem extract_one (a : UInt8) (r : List UInt8) : ((bs (a :: r)).extract 0 1).toList = [a] := by
  rw [ByteArray.toList_eq, ByteArray.data_extract]
  simp [bs]
theorem hasPrefix0 (s : List UInt8) (w : World) (hs : s.length ≤ 1000000) :
    Calls Tryd.prog 54 #[.string (bs s), .string ⟨#[48]⟩] w fun e w' => e = .returned (.bool (decide (s.head? = some 48))) ∧ w' = w := by
  have hsz : (bs s).size ≤ 1000000 := by rw [bs_size]; exact hs
  cases s with
  | nil =>
    have hpos : ¬ 1 ≤ (bs ([] : List UInt8)).size := by rw [bs_size]; simp
    go_enter Tryd.func54, Tryd.ntmps54
    go_wp2
    go_ret
    exact ⟨rfl, rfl⟩
  | cons a r =>
    have hpos : 1 ≤ (bs (a :: r)).size := by rw [bs_size]; simp
    have hx := extract_one a r
    rcases hz : decide ((a :: r).head? = some 48) with _ | _
    · have h2 : (a == 48) = false := by
        have := of_decide_eq_false hz
        simpa using this
      clear hz
      go_enter Tryd.func54, Tryd.ntmps54
      go_wp2
      go_ret
      exact ⟨rbool (by simp), rfl⟩
    · have h2 : a = 48 := by
        have := of_decide_eq_true hz
        simpa using this
      subst h2
      clear hz
      go_enter Tryd.func54, Tryd.ntmps54
      go_wp2
      go_ret
      exact ⟨rbool (by simp), rfl⟩
theorem trimInner (s t : List UInt8) (w : World) (hs : s.length ≤ 1000000) (ht : (if s.head? = some 48 then s.tail else s) = t) :
    Calls Tryd.prog 36 #[.string (bs s), .string ⟨#[48]⟩] w fun e w' => e = .returned (.string (bs t)) ∧ w' = w := by
  have hsz : (bs s).size ≤ 1000000 := by rw [bs_size]; exact hs
  have hP := hasPrefix0 s w hs
  rcases hz : decide (s.head? = some 48) with _ | _
  · have HI := Lib.hid (show s = t by rw [← ht, if_neg (of_decide_eq_false hz)])
    rw [hz] at hP
    have HP := Lib.hid hP
    clear hz ht hP
    go_enter Tryd.func36, Tryd.ntmps36
    go_wp2_with (fail)
    refine HP.out.mono ?_
    rintro e w' ⟨rfl, hw1⟩
    obtain rfl := hw1.symm
    go_wp2
    go_ret
    exact ⟨by rw [← HI.out]; rfl, rfl⟩
  · have HI := Lib.hid (show s.tail = t by rw [← ht, if_pos (of_decide_eq_true hz)])
    have hpos : 1 ≤ (bs s).size := by
      rw [bs_size]
      cases s with
      | nil => exact absurd (of_decide_eq_true hz) (by simp)
      | cons a r => simp
    rw [hz] at hP
    have HP := Lib.hid hP
    clear hz ht hP
    go_enter Tryd.func36, Tryd.ntmps36
    go_wp2_with (fail)
    refine HP.out.mono ?_
    rintro e w' ⟨rfl, hw1⟩
    obtain rfl := hw1.symm
    go_wp2
    go_ret
    exact ⟨by rw [← HI.out, ← bs_tail]; rfl, rfl⟩
theorem trimPrefix0 (s t : List UInt8) (w : World) (hs : s.length ≤ 1000000) (ht : (if s.head? = some 48 then s.tail else s) = t) :
    Calls Tryd.prog 18 #[.string (bs s), .string ⟨#[48]⟩] w fun e w' => e = .returned (.string (bs t)) ∧ w' = w := by
  have HI := Lib.hid (trimInner s t w hs ht)
  clear ht
  go_enter Tryd.func18, Tryd.ntmps18
  go_wp2_with (fail)
  refine HI.out.mono ?_
  rintro e w' ⟨rfl, hw1⟩
  obtain rfl := hw1.symm
  go_wp2
  go_ret
  exact ⟨rfl, rfl⟩
theorem trimPrefix_app (p q t : List UInt8) (w : World) (hs : (p ++ q).length ≤ 1000000) (ht : (if (p ++ q).head? = some 48 then (p ++ q).tail else p ++ q) = t) :
    Calls Tryd.prog 18 #[.string (bs p ++ bs q), .string ⟨#[48]⟩] w fun e w' => e = .returned (.string (bs t)) ∧ w' = w := by
  rw [bs_append]
  exact trimPrefix0 _ t w hs ht
/-- The digits of a tenth, and the last digit behind them. -/
theorem digits_trim (n : Nat) : (if (decN (n / 10) ++ [dig (n % 10)]).head? = some 48 then (decN (n / 10) ++ [dig (n % 10)]).tail else decN (n / 10) ++ [dig (n % 10)]) = decN n := by
  rcases Nat.lt_or_ge n 10 with h | h
  · rw [show n / 10 = 0 by omega, show n % 10 = n by omega, decN_zero, dig_zero, decN_small h]; rfl
  · rw [decN_big h]
    refine if_neg fun e => ?_
    have hne := decN_ne (n / 10)
    have e2 : (decN (n / 10)).head? = some 48 := by
      cases hc : decN (n / 10) with
      | nil => exact absurd hc hne
      | cons a r => rw [hc] at e; simpa using e
    have e3 := (decN_lead (n / 10)).2 e2
    have e4 := valN_decN (n / 10)
    rw [e3] at e4
    have : valN [48] = 0 := by decide
    omega
theorem sv_zero_top {la : List Int} (h : Us la) : sv (la ++ [0]) = uv la := by
  rw [sv_last h (by unfold U; omega), if_pos (by decide), uv_snoc]; omega
theorem us_zero_top {la : List Int} (h : Us la) : Us (la ++ [0]) := h.snoc (by unfold U; omega)
theorem uv_zero_top (la : List Int) : uv (la ++ [0]) = uv la := by rw [uv_snoc]; omega
theorem decL_nat {x : Int} (h : 0 ≤ x) : decL x = decN x.toNat := by
  unfold decL
  rw [if_neg (by omega)]
  congr 1
  omega
theorem sv_tenth {la : List Int} (h : Us la) : sv (limbs (la.length + 1) (uv la / 10)) = uv la / 10 := by
  have h0 := uv_nonneg h
  have h1 := uv_lt h
  have h2 := M_le (show la.length ≤ la.length + 1 by omega)
  have hp := M_pos (la.length + 1)
  exact sv_limbs (by omega) (by omega)
theorem cell_later {w4 w5 : World} {v : Value} {t : TypeId} (hb : Below (w4.drew.alloc (.cells #[v] t)).heap.size (w4.drew.alloc (.cells #[v] t)) w5) : w5.cell? ⟨w4.heap.size, 0, none⟩ = some v :=
  (hb.cell (p := ⟨w4.heap.size, 0, none⟩) (by simp)).trans (by simp [go_sem])
theorem below_first {w4 w5 : World} (hb : Below w4.drew.heap.size w4.drew w5) (o : Obj) : Below w4.heap.size w4 (w5.alloc o) :=
  (((Below.refl w4.heap.size w4).drew).trans hb).alloc hb.size o
theorem below_second {w4 w5 : World} {o : Obj} (hb : Below (w4.drew.alloc o).heap.size (w4.drew.alloc o) w5) : Below w4.heap.size w4 w5 :=
  (((Below.refl w4.heap.size w4).drew).alloc (Nat.le_refl _) o).trans (hb.mono (by simp))
theorem law4_digits_no (A : Option Addr) (n c : Nat) (w : World) (hw : Wts w) (h : n = 0 ∨ 8 < n) :
    Calls Tryd.prog 8 #[.slice A n c] w fun e w' => e = .returned (.bool true) ∧ Below w.heap.size w w' := by
  have HN := Lib.hid h
  clear h
  go_enter Tryd.func8, Tryd.ntmps8
  go_wp2_with (fail)
  refine (r3is_no _ _ _ _ HN.out).mono ?_
  rintro e w' ⟨rfl, hw1⟩
  obtain rfl := hw1.symm
  go_wp2_with (fail)
  refine (alive4 _ hw).mono ?_
  rintro e w1 ⟨rfl, hb1⟩
  go_wp2
  go_ret
  exact ⟨rfl, hb1⟩
theorem law4_digits_eight (A : Option Addr) (c : Nat) (w : World) (hw : Wts w) :
    Calls Tryd.prog 8 #[.slice A 8 c] w fun e w' => e = .returned (.bool true) ∧ Below w.heap.size w w' := by
  go_enter Tryd.func8, Tryd.ntmps8
  go_wp2_with (fail)
  refine (r3is_yes _ 8 _ _ (by decide) (by decide)).mono ?_
  rintro e w' ⟨rfl, hw1⟩
  obtain rfl := hw1.symm
  go_wp2_with (fail)
  refine (alive4 _ hw).mono ?_
  rintro e w1 ⟨rfl, hb1⟩
  go_wp2
  go_ret
  exact ⟨rfl, hb1⟩
set_option maxHeartbeats 2000000 in
theorem law4_digits_yes (A : Option Addr) (c : Nat) (la : List Int) (w : World) (hw : Wts w) (ha : Arg w A c la) (h1 : 1 ≤ la.length) (h7 : la.length ≤ 7) :
    Calls Tryd.prog 8 #[.slice A la.length c] w fun e w' => e = .returned (.bool true) ∧ Below w.heap.size w w' := by
  obtain ⟨i0, hi0, hz0, hz1, hz2⟩ := info_parts infoU
  have t1 : ((la.length : Int) == 8) = false := by rw [beq_eq_false_iff_ne]; omega
  go_enter Tryd.func8, Tryd.ntmps8
  go_wp2_with (fail)
  refine (r3is_yes _ _ _ _ h1 (by omega)).mono ?_
  rintro e w' ⟨rfl, hw1⟩
  obtain rfl := hw1.symm
  have hb0 := (Below.refl w.heap.size w).alloc (Nat.le_refl _) (.cells #[] 33)
  have hown0 : OwnK (w.alloc (.cells #[] 33)) w.heap.size 33 .u64 (.slice (some ⟨w.heap.size, 0, none⟩) 0 0) [] :=
    World.ownsRow_lit (e := 33) (size := 1) w #[] 0 (Nat.le_refl _) (by decide) rfl
  have HO0 := Lib.hid hown0
  have hsl0 := ha.sl.next hb0
  have HUZ := Lib.hid (us_zero_top ha.us)
  have HSV := Lib.hid (sv_zero_top ha.us)
  have HUV := Lib.hid (uv_zero_top la)
  have HST := Lib.hid (sv_tenth ha.us)
  have HN0 := Lib.hid (uv_nonneg ha.us)
  have HSM := Lib.hid (sv_small (us_zero_top ha.us) (by simp; omega))
  clear hown0
  go_wp2_with (first
    | (at_builtin; refine wp_appL rfl (.tmp 17) (.tmp 18) 22 rfl w.heap.size 33 .u64 i0 _ Tryd.underlying22 hi0 hz0 hz1 hz2 rfl (.slice (some ⟨w.heap.size, 0, none⟩) 0 0) [] la A la.length c (fun _ => True) rfl HO0.out rfl rfl hsl0 h1 (by simp; omega) hb0.size ?_; intro v1 w1 ho1 hb1; have HO1 := Lib.hid ho1; clear ho1; have hz1' : w.heap.size ≤ w1.heap.size := (by have := hb1.size; have := hb0.size; omega))
    | (at_builtin; refine wp_app1 rfl (.tmp 19) (.tmp 20) 22 rfl w.heap.size 33 .u64 i0 _ Tryd.underlying22 hi0 hz0 hz1 hz2 rfl _ ([] ++ la) 0 rfl HO1.out rfl (by simp; omega) hz1' ?_; intro v2 w2 ho2 hb2; have HO2 := Lib.hid ho2; clear ho2))
  obtain ⟨lb, hlb⟩ : ∃ lb, lb = la ++ [0] := ⟨_, rfl⟩
  obtain ⟨N, hN⟩ : ∃ N, N = (uv la).toNat := ⟨_, rfl⟩
  have hform := HO2.out.form
  rw [List.nil_append, ← hlb] at hform
  obtain ⟨A2, c2, rfl, hc2, _, hs2⟩ := hform
  have hbw2 : Below w.heap.size w w2 := (hb0.trans hb1).trans hb2
  have hlen : lb.length = la.length + 1 := by rw [hlb]; simp
  have hb1' : 1 ≤ lb.length := by omega
  have hb8 : lb.length ≤ 8 := by omega
  have hub : Us lb := by rw [hlb]; exact HUZ.out
  have hdec : decL (sv lb) = decN N := by rw [hlb, HSV.out, decL_nat HN0.out, hN]
  obtain ⟨lq, hlq⟩ : ∃ lq, lq = limbs lb.length (uv lb / 10) := ⟨_, rfl⟩
  obtain ⟨r, hr⟩ : ∃ r, r = uv lb % 10 := ⟨_, rfl⟩
  have hq1 : 1 ≤ lq.length := by rw [hlq, limbs_length]; exact hb1'
  have hq8 : lq.length ≤ 8 := by rw [hlq, limbs_length]; exact hb8
  have huq : Us lq := by rw [hlq]; exact limbs_us _ _
  have hr0 : 0 ≤ r := by rw [hr]; omega
  have hr1 : r < 10 := by rw [hr]; omega
  have hdq : decL (sv lq) = decN (N / 10) := by
    have h0 := HN0.out
    rw [hlq, hlen, hlb, HUV.out, HST.out, decL_nat (by omega), hN]
    congr 1
    omega
  have hrN : r.toNat = N % 10 := by rw [hr, hlb, HUV.out, hN]; have := HN0.out; omega
  have hplen : (decN (N / 10)).length ≤ 161 := by rw [← hdq]; exact sv_small huq hq8
  have HT := Lib.hid (digits_trim N)
  have hF4 := fun (w : World) (h : SlR w (fun b => True) .u64 A2 lb) => r4format_yes A2 c2 lb (fun _ => True) w h hub hb1' hb8
  rw [hdec] at hF4
  have HF4 := Lib.hid hF4
  have hDv := fun (w : World) (hw : Wts w) (h : Arg w A2 c2 lb) => decDiv_yes A2 c2 lb 10 w hw h hb1' hb8 (by unfold U; omega) (by decide)
  rw [← hlq, ← hr] at hDv
  have HDv := Lib.hid hDv
  have hFq := fun (A : Option Addr) (c : Nat) (w : World) (hw : Wts w) (h : Arg w A c lq) => decFormat_yes A c lq w hw h hq1 hq8
  rw [hdq] at hFq
  have HFq := Lib.hid hFq
  rw [← hrN] at HT
  have hslb := hs2.imp (T := fun _ => True) (fun _ _ => trivial)
  have HW2 := Lib.hid (hw.below hbw2)
  obtain ⟨p, hp⟩ : ∃ p, p = decN (N / 10) := ⟨_, rfl⟩
  obtain ⟨t, ht⟩ : ∃ t, t = decN N := ⟨_, rfl⟩
  have htne : t ≠ [] := by rw [ht]; exact decN_ne N
  rw [← hp] at HT HFq hplen
  rw [← ht] at HT HF4
  clear hF4 hDv hFq hlq hr hlen hlb hdec hdq hrN HO0 HO1 HO2 hsl0 hs2 HSV HUV HST HN0 HSM HUZ hN hp ht hb0 hb1 hb2
  refine (HF4.out _ hslb).mono ?_
  rintro e w3 ⟨rfl, hb3⟩
  have hbw3 := hbw2.trans (hb3.mono hbw2.size)
  go_wp2_with (fail)
  refine (HDv.out _ (hw.below hbw3) ⟨hslb.next hb3, hub, hc2⟩).mono ?_
  rintro e w4 ⟨A4, c4, rfl, hc4, hs4, hb4⟩
  have hbw4 := hbw3.trans (hb4.mono hbw3.size)
  have hw4 := hw.below hbw4
  have HA4 := Lib.hid (show Arg w4 A4 c4 lq from ⟨hs4.imp fun _ _ => trivial, huq, hc4⟩)
  have hcv : ∀ (wx : World) (b : Nat), wx.cell? ⟨b, 0, none⟩ = some (.int .u8 (48 + r)) → (convert 40 9 (.slice (some ⟨b, 0, none⟩) 1 1)).run Tryd.prog wx = .ok (.string (bs [dig r.toNat])) wx := by
    intro wx b hc
    have h1 := dig_nat (d := r.toNat) (by omega)
    refine run_convert_bytes_back (P := Tryd.prog) _ 40 9 5 ⟨b, 0, none⟩ 1 [dig r.toNat] Tryd.underlying40 Tryd.underlying5 Tryd.underlying9 ?_
    intro j hj
    have hj0 : j = 0 := by simpa using hj
    subst hj0
    simp only [List.getElem_cons_zero]
    rw [h1]
    rw [addr_add0, Nat.zero_add, hc]
    congr 2
    omega
  have e1 : r.tmod 10 = r := Int.tmod_eq_of_lt hr0 hr1
  have e2 : r % 10 = r := Int.emod_eq_of_lt hr0 hr1
  have e3 : IntKind.u8.wrap r = r := by simp [IntKind.wrap, IntKind.bits, IntKind.signed]; omega
  have e4 : IntKind.u8.wrap (48 + r) = 48 + r := by simp [IntKind.wrap, IntKind.bits, IntKind.signed]; omega
  have hz5 : (bs p).size ≤ 1000 := by rw [bs_size]; omega
  have hz6 : (bs [dig r.toNat]).size ≤ 1 := by rw [bs_size]; exact Nat.le_refl _
  have hzz : ¬ 9223372036854775807 < (bs p).size + (bs [dig r.toNat]).size := by omega
  clear hs4
  go_upto_region 6 with (fail)
  go_cut [7] (fun s7 wx => s7 = .string (bs t) ∧ Below w4.heap.size w4 wx)
  case first =>
   go_region_law (first
    | (go_simp; go_at_call 10; refine (HFq.out A4 c4 _ (by first | exact hw4 | exact hw4.below ((below_drewN' (Below.refl _ _) 1).alloc (Nat.le_refl _) _)) (by first | exact HA4.out.next (below_drewN' (Below.refl _ _) 1) | exact HA4.out.next ((below_drewN' (Below.refl _ _) 1).alloc (Nat.le_refl _) _))).mono ?_; rintro e w5 ⟨rfl, hb5⟩; (try have cX := cell_later hb5))
    | (go_simp; go_at_call 18; refine (trimPrefix_app p [dig r.toNat] t _ (by simp; omega) HT.out).mono ?_; rintro e w6 ⟨rfl, hw6⟩; obtain rfl := hw6.symm))
   all_goals (go_wp2_with (fail); go_meet)
   all_goals exact ⟨rfl, by first | exact below_first (by assumption) _ | exact below_second (by assumption)⟩
  case rest =>
    obtain ⟨rfl, hbc⟩ := hcut
    have hbw5 := hbw4.trans (hbc.mono hbw4.size)
    have htt := bs_toList t
    obtain ⟨ta, tr, rfl⟩ : ∃ ta tr, t = ta :: tr := by
      cases t with
      | nil => exact absurd rfl htne
      | cons a r => exact ⟨a, r, rfl⟩
    clear e1 e2 e3 e4 hcv htne
    go_wp2_with (fail)
    refine (alive4 _ (hw.below hbw5)).mono ?_
    rintro e w6 ⟨rfl, hb6⟩
    have hbw6 := hbw5.trans (hb6.mono hbw5.size)
    go_wp2
    go_ret
    exact ⟨rfl, hbw6⟩
theorem law_decimalDigits (A : Option Addr) (c : Nat) (la : List Int) (w : World) (hw : Wts w) (ha : Arg w A c la) :
    Calls Tryd.prog 8 #[.slice A la.length c] w fun e w' => e = .returned (.bool true) ∧ Below w.heap.size w w' := by
  by_cases h : la.length = 0 ∨ 8 < la.length
  · exact law4_digits_no A la.length c w hw h
  · by_cases h8 : la.length = 8
    · rw [h8]; exact law4_digits_eight A c w hw
    · exact law4_digits_yes A c la w hw ha (by omega) (by omega)
end Go.Proofs.YtpdmpmlieligoaaDoor
