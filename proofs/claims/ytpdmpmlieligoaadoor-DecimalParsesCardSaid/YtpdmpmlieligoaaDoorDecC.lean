/-
  Contracts of package decimal, last part: Parse.
-/
import Derived.Test.YtpdmpmlieligoaaDoorDecF
namespace Go.Proofs.YtpdmpmlieligoaaDoor
open Go.RowKit

/-- An unsigned number with its sign fits exactly if its words bear that sign. -/
theorem fits_sign {n : Nat} {V : Int} (b : Bool) (h0 : 0 ≤ V) (h1 : V < M n) (hb : b = true → 1 ≤ V) :
    fitsB (if b then -V else V) n = (decide (sv (limbs n (if b then -V else V)) < 0) == b) := by
  have hM := M_pos n
  unfold fitsB
  cases b with
  | false =>
    simp only [Bool.false_eq_true, if_false]
    have e : uv (limbs n V) = V := by rw [limbs_uv]; exact Int.emod_eq_of_lt h0 h1
    have es : sv (limbs n V) = if 2 * V < M n then V else V - M n := by unfold sv; rw [e, limbs_length]
    rw [es]
    by_cases hc : 2 * V < M n
    · rw [if_pos hc, decide_eq_true rfl, decide_eq_false (by omega)]; rfl
    · rw [if_neg hc, decide_eq_false (by omega), decide_eq_true (by omega)]; rfl
  | true =>
    simp only [if_true]
    have hV := hb rfl
    have e : uv (limbs n (-V)) = M n - V := by
      rw [limbs_uv, ← Int.add_emod_right]
      rw [Int.emod_eq_of_lt (by omega) (by omega)]; omega
    have es : sv (limbs n (-V)) = if 2 * (M n - V) < M n then M n - V else -V := by
      unfold sv; rw [e, limbs_length]
      split <;> omega
    rw [es]
    by_cases hc : 2 * (M n - V) < M n
    · rw [if_pos hc, decide_eq_false (by omega), decide_eq_false (by omega)]; rfl
    · rw [if_neg hc, decide_eq_true rfl, decide_eq_true (by omega)]; rfl
/-- A number beyond the words' range does not fit. -/
theorem fits_big {n : Nat} {V : Int} (b : Bool) (h1 : M n ≤ V) : fitsB (if b then -V else V) n = false := by
  have hM := M_pos n
  unfold fitsB
  refine decide_eq_false fun e => ?_
  have hr := sv_range (limbs_us n (if b then -V else V))
  rw [limbs_length, e] at hr
  cases b with
  | false => simp only [Bool.false_eq_true, if_false] at hr; omega
  | true => simp only [if_true] at hr; omega
/-- A text that is no decimal form. -/
def badP (s : List UInt8) : Bool := !goodL (bodyL s) || (isMinus s && decide (bodyL s = [48]))
theorem badP_none {s : List UInt8} (h : badP s = true) : decOf s = none := by
  unfold badP at h
  rw [Bool.or_eq_true, Bool.not_eq_true', Bool.and_eq_true] at h
  rcases h with h | ⟨h1, h2⟩
  · by_cases hl : lead0 (bodyL s) = true
    · rcases of_decide_eq_true hl with h' | ⟨h', h2'⟩
      · exact decOf_empty h'
      · refine decOf_zero h' fun e => ?_
        subst e
        exact h2' rfl
    · refine decOf_not fun hd => ?_
      rw [goodL_yes (by simpa using hl) hd] at h
      cases h
  · have e := of_decide_eq_true h2
    refine decOf_zero (by rw [e]; rfl) fun e2 => ?_
    subst e2
    exact absurd (of_decide_eq_true h1) (by decide)
theorem badP_yes {s : List UInt8} (h : badP s = false) :
    Digs (bodyL s) ∧ decOf s = some (if isMinus s then -(valN (bodyL s) : Int) else (valN (bodyL s) : Int)) ∧ (isMinus s = true → 1 ≤ (valN (bodyL s) : Int)) := by
  unfold badP at h
  rw [Bool.or_eq_false_iff, Bool.not_eq_false'] at h
  obtain ⟨hg, hm⟩ := h
  obtain ⟨hl, hd⟩ := goodL_iff.1 hg
  have h48 : isMinus s = true → bodyL s ≠ [48] := fun e e2 => by rw [e, decide_eq_true e2] at hm; cases hm
  have hlen : ((bodyL s).length < s.length) ↔ isMinus s = true := by
    rcases body_cases s with ⟨r, rfl, hb⟩ | ⟨hm2, hb⟩
    · rw [hb]; exact ⟨fun _ => rfl, fun _ => by simp⟩
    · rw [hb]; exact ⟨fun h => absurd h (by omega), fun h => absurd (of_decide_eq_true h) hm2⟩
  refine ⟨hd, ?_, fun hmi => ?_⟩
  · rw [decOf_yes hl.1 (fun e => by
      have e2 := hl.2 e
      rcases hmm : isMinus s with _ | _
      · have hb : bodyL s = s := by unfold bodyL; rw [if_neg (of_decide_eq_false hmm)]
        rw [hb] at e2; exact e2
      · exact absurd e2 (h48 hmm)) hd]
    rcases hmm : isMinus s with _ | _
    · rw [if_neg (fun h => by rw [hlen.1 h] at hmm; cases hmm)]; rfl
    · rw [if_pos (hlen.2 hmm)]; rfl
  · have h2 : (bodyL s).head? ≠ some 48 := fun e => h48 hmi (hl.2 e)
    have h3 := valN_pos hd hl.1 h2
    have h4 : 0 < 10 ^ ((bodyL s).length - 1) := Nat.pow_pos (by omega)
    omega
theorem limbNeg_x (A : Option Addr) (c n : Nat) (la : List Int) (x : Int) (w : World) (hw : Wts w) (ha : Arg w A c la) (hn : la.length = n) (l1 : 1 ≤ n) (l8 : n ≤ 8) (hx : la = limbs n x) :
    Calls Tryd.prog 21 #[.slice A n c] w fun e w' => ∃ A1 c1, e = .returned (.slice A1 n c1) ∧ SlR w' (fun b => w.heap.size ≤ b) .u64 A1 (limbs n (-x)) ∧ n ≤ c1 ∧ Below w.heap.size w w' := by
  refine (limbNeg_n A c n la w hw ha hn l1 l8).mono ?_
  rintro e w' ⟨A1, c1, ls, rfl, hs, hu, hc, hl, huv, hb⟩
  have e : ls = limbs n (-x) := by
    refine limbs_unique hl hu ?_
    have h1 := sv_mod la ha.us
    rw [hn, hx, limbs_uv] at h1
    rw [huv, Int.neg_emod_eq_sub_emod, Int.neg_emod_eq_sub_emod, Int.sub_emod, hx, h1, ← Int.sub_emod]
  subst e
  exact ⟨A1, c1, rfl, hs, by rw [← hl]; exact hc, hb⟩
set_option maxHeartbeats 4000000 in
theorem decParse_nat (s : List UInt8) (n : Nat) (w : World) (hw : Wts w) (hs : s.length ≤ 1000000) (h1 : 1 ≤ n) (h8 : n ≤ 8) :
    Calls Tryd.prog 12 #[.string (bs s), .int .i64 n] w (GivesP w (parsed s n).1 (parsed s n).2) := by
  have hsz : (bs s).size ≤ 1000000 := by rw [bs_size]; exact hs
  have hdl : (bodyL s).length ≤ s.length := by unfold bodyL; split <;> simp
  obtain ⟨d, hd⟩ : ∃ d, d = bodyL s := ⟨_, rfl⟩
  have HD := Lib.hid hd
  have hdlen : d.length ≤ 1000000 := by rw [hd]; omega
  have hcut := cutMinus_any s w hs
  obtain ⟨b, hb⟩ : ∃ b, b = isMinus s := ⟨_, rfl⟩
  rw [← hd, ← hb] at hcut
  have HM := Lib.hid hb
  clear hb
  have HC := Lib.hid hcut
  clear hcut hd hdl
  go_enter Tryd.func12, Tryd.ntmps12
  go_wp2_with (fail)
  refine (decWidth_yes _ _ (by omega) (by omega)).mono ?_
  rintro e w' ⟨rfl, hw1⟩
  obtain rfl := hw1.symm
  go_wp2_with (fail)
  refine HC.out.mono ?_
  rintro e w' ⟨rfl, hw1⟩
  obtain rfl := hw1.symm
  go_upto_region 4 with (fail)
  go_cut [27] (fun s27 wx => wx = w ∧ s27 = .bool (badP s))
  case first =>
    go_wp2_with (fail)
    refine (areDigits_any d _ hdlen).mono ?_
    rintro e w' ⟨rfl, hw1⟩
    obtain rfl := hw1.symm
    rcases hg : goodL d with _ | _
    · have HB := Lib.hid (show badP s = true by unfold badP; rw [← HD.out, hg]; rfl)
      go_wp2
      go_meet
      exact ⟨rfl, by rw [HB.out]⟩
    · cases b with
      | false =>
        have HB := Lib.hid (show badP s = false by unfold badP; rw [← HD.out, hg, ← HM.out]; rfl)
        go_wp2
        go_meet
        exact ⟨rfl, by rw [HB.out]⟩
      | true =>
        have htl : (bs d).toList = d := bs_toList _
        rcases hq : decide (d = [48]) with _ | _
        · have HB := Lib.hid (show badP s = false by unfold badP; rw [← HD.out, hg, ← HM.out, hq]; rfl)
          have hq2 : (d == [48]) = false := by rw [beq_eq_false_iff_ne]; exact of_decide_eq_false hq
          clear hq
          go_wp2
          go_meet
          exact ⟨rfl, by rw [HB.out]⟩
        · have HB := Lib.hid (show badP s = true by unfold badP; rw [← HD.out, hg, ← HM.out, hq]; rfl)
          have hq2 : (d == [48]) = true := by rw [beq_iff_eq]; exact of_decide_eq_true hq
          clear hq
          go_wp2
          go_meet
          exact ⟨rfl, by rw [HB.out]⟩
  case rest =>
    obtain ⟨rfl, rfl⟩ := hcut
    rcases hbad : badP s with _ | _
    rotate_left
    · have HP := Lib.hid (show parsed s n = ([], 9) from parsed_none (by omega) (by omega) (badP_none hbad))
      go_wp2
      go_ret2
      rw [HP.out]
      exact givesP_nil (Below.refl _ _)
    · have HY := Lib.hid (badP_yes hbad)
      have hdig : Digs d := by rw [HD.out]; exact HY.out.1
      clear hbad
      obtain ⟨V, hV⟩ : ∃ V : Int, V = (valN d : Int) := ⟨_, rfl⟩
      have hV0 : 0 ≤ V := by omega
      have HX := Lib.hid (show decOf s = some (if b then -V else V) by rw [HY.out.2.1, hV, HD.out, HM.out])
      have HX1 := Lib.hid (show b = true → 1 ≤ V by intro h; rw [hV, HD.out]; exact HY.out.2.2 (by rw [← HM.out]; exact h))
      have huns := unsigned_any d n wc hdig hdlen h1 h8
      rw [← hV] at huns
      have HU := Lib.hid huns
      clear huns hV hdig
      go_wp2_with (fail)
      refine HU.out.mono ?_
      intro e w2 h2
      by_cases hbig : V < M n
      rotate_left
      · unfold GivesN at h2
        rw [if_neg hbig] at h2
        obtain ⟨rfl, hb2⟩ := h2
        have HP := Lib.hid (show parsed s n = ([], 3) from parsed_range (by omega) (by omega) HX.out (by rw [Int.toNat_natCast]; exact fits_big _ (by omega)))
        clear hbig
        go_wp2
        go_ret2
        rw [HP.out]
        exact givesP_nil hb2
      · unfold GivesN at h2
        rw [if_pos hbig] at h2
        obtain ⟨g, os, rfl, hg, hown, hlo, hu, huv, hb2⟩ := h2
        have HF := Lib.hid (fits_sign b hV0 hbig HX1.out)
        have HOS := Lib.hid (show os = limbs n V from limbs_unique hlo hu (by rw [huv]; exact (Int.emod_eq_of_lt hV0 hbig).symm))
        obtain ⟨A1, c1, hv, hcap, _, hsl⟩ := hown.form
        rw [hlo] at hv
        injection hv with ev1 ev2 ev3
        subst ev1
        subst ev3
        have HS := Lib.hid hsl
        have HL := Lib.hid hlo
        clear hbig huv hown hlo hsl ev2 HX1
        go_upto_if 36 with (fail)
        go_cut [8] (fun s8 wx => ∃ A3 c3, s8 = .slice A3 n c3 ∧ SlR wx (fun b => wc.heap.size ≤ b) .u64 A3 (limbs n (if b then -V else V)) ∧ n ≤ c3 ∧ Below wc.heap.size wc wx)
        case first =>
          cases b with
          | false =>
            go_wp2
            go_meet
            refine ⟨_, _, rfl, ?_, Nat.le_refl _, hb2⟩
            have h := HS.out
            rw [HOS.out] at h
            exact h
          | true =>
            go_wp2_with (fail)
            refine (limbNeg_x _ n n os V _ (hw.below hb2) ⟨HS.out.imp fun _ _ => trivial, hu, by rw [HL.out]; exact Nat.le_refl _⟩ HL.out h1 h8 HOS.out).mono ?_
            rintro e w3 ⟨A3, c3, rfl, hs3, hc3, hb3⟩
            go_wp2
            go_meet
            exact ⟨A3, c3, rfl, hs3.imp fun b hb => Nat.le_trans hb2.size hb, hc3, hb2.trans (hb3.mono hb2.size)⟩
        case rest =>
          obtain ⟨A3, c3, rfl, hs3, hc3, hb3⟩ := hcut
          obtain ⟨X, hX⟩ : ∃ X : Int, X = (if b then -V else V) := ⟨_, rfl⟩
          rw [← hX] at hs3
          have HFX := Lib.hid (show fitsB X n = (decide (sv (limbs n X) < 0) == b) by rw [hX]; exact HF.out)
          have HXX := Lib.hid (show decOf s = some X by rw [HX.out, hX])
          have hL := limbs_length n X
          have hUs := limbs_us n X
          have HS3 := Lib.hid hs3
          clear hX hs3
          go_wp2_with (fail)
          refine (limbSign_n A3 c3 n (limbs n X) _ (hw.below hb3) ⟨HS3.out.imp fun _ _ => trivial, hUs, by rw [hL]; exact hc3⟩ hL h1 h8).mono ?_
          rintro e w4 ⟨s4, rfl, _, hs4, hb4⟩
          have hb5 := hb3.trans (hb4.mono hb3.size)
          have hs5 := HS3.out.next hb4
          have HT := Lib.hid (show fitsB X n = (decide (s4 < 0) == b) by rw [HFX.out]; congr 1; rw [decide_eq_decide]; exact hs4.symm)
          have HS5 := Lib.hid hs5
          have HL := Lib.hid hL
          clear hs4 hs5 hL
          have HP3 := Lib.hid (fun h : fitsB X n = false => (show parsed s n = ([], 3) from parsed_range (by omega) (by omega) HXX.out (by rw [Int.toNat_natCast]; exact h)))
          have HP0 := Lib.hid (fun h : fitsB X n = true => (show parsed s n = (limbs n X, 0) from by
            have := parsed_fits (n := (n : Int)) (by omega) (by omega) HXX.out (by rw [Int.toNat_natCast]; exact h)
            rw [Int.toNat_natCast] at this
            exact this))
          by_cases hs0 : s4 < 0
          · have HD0 := Lib.hid (show decide (s4 < 0) = true from decide_eq_true hs0)
            cases b with
            | false =>
              have HP := Lib.hid (HP3.out (by rw [HT.out, HD0.out]; rfl))
              go_wp2
              go_ret2
              rw [HP.out]
              exact givesP_nil hb5
            | true =>
              have HP := Lib.hid (HP0.out (by rw [HT.out, HD0.out]; rfl))
              go_wp2
              go_ret2
              rw [HP.out]
              exact ⟨A3, c3, by rw [HL.out]; rfl, by rw [HL.out]; exact hc3, HS5.out, hb5⟩
          · have HD0 := Lib.hid (show decide (s4 < 0) = false from decide_eq_false hs0)
            cases b with
            | false =>
              have HP := Lib.hid (HP0.out (by rw [HT.out, HD0.out]; rfl))
              go_wp2
              go_ret2
              rw [HP.out]
              exact ⟨A3, c3, by rw [HL.out]; rfl, by rw [HL.out]; exact hc3, HS5.out, hb5⟩
            | true =>
              have hd0 : (!decide (s4 < 0)) = true := by rw [HD0.out]; rfl
              have HP := Lib.hid (HP3.out (by rw [HT.out, HD0.out]; rfl))
              go_wp2
              go_ret2
              rw [HP.out]
              exact givesP_nil hb5
theorem decParse_any (s : List UInt8) (n : Int) (w : World) (hw : Wts w) (hs : s.length ≤ 1000000) (hn : S n) :
    Calls Tryd.prog 12 #[.string (bs s), .int .i64 n] w (GivesP w (parsed s n).1 (parsed s n).2) := by
  by_cases h : n < 1 ∨ 8 < n
  · rw [parsed_arg h]
    have hsz : (bs s).size ≤ 1000000 := by rw [bs_size]; exact hs
    have HN := Lib.hid h
    clear h hn
    go_enter Tryd.func12, Tryd.ntmps12
    go_wp2_with (fail)
    refine (decWidth_no _ _ HN.out).mono ?_
    rintro e w' ⟨rfl, hw1⟩
    obtain rfl := hw1.symm
    go_wp2
    go_ret2
    exact givesP_nil (Below.refl _ _)
  · obtain ⟨m, rfl⟩ := Int.eq_ofNat_of_zero_le (show 0 ≤ n by omega)
    exact decParse_nat s m w hw hs (by omega) (by omega)
end Go.Proofs.YtpdmpmlieligoaaDoor
