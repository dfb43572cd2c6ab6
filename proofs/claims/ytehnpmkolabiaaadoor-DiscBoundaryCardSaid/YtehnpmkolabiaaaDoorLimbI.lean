/-
  Contracts of package limb, sixth part: Mul.
-/
import Derived.Test.YtehnpmkolabiaaaDoorLimbF
namespace Go.Proofs.YtehnpmkolabiaaaDoor
open Go.RowKit
set_option maxRecDepth 100000
set_option linter.unusedVariables false
set_option linter.unusedSimpArgs false

theorem and_mk' {v : Int} (h : U v) (c : Bool) : bits .and .u64 v (mk c) = if c then v else 0 := by
  obtain ⟨x, rfl⟩ := U_word h
  cases c
  · rw [mk_false_w, and_w, BitVec.and_zero]; rfl
  · rw [mk_true_w, and_w, BitVec.and_allOnes]; rfl
def SubWRel (W : World) (base g N off : Nat) (m : Bool) (os lb : List Int) (cr i : Value) (wr : World) : Prop :=
  ∃ (k : Nat) (os2 : List Int) (c : Int), i = .int .i64 k ∧ cr = .int .u64 c ∧ k ≤ lb.length ∧ OwnK wr base 26 .u64 (.slice (some ⟨g, 0, none⟩) N N) os2 ∧ os2.length = N ∧ Us os2 ∧ 0 ≤ c ∧ c ≤ 1 ∧
    uv os2 - M (off + k) * c = uv os - M off * (b1 m * uv (lb.take k)) ∧ Below base W wr
set_option maxHeartbeats 4000000 in
theorem subtractWhere_any (m : Bool) (g off n cap base N : Nat) (B : Option Addr) (d : Nat) (os lb : List Int) (w : World) (hO : OwnK w base 26 .u64 (.slice (some ⟨g, 0, none⟩) N N) os) (hL : os.length = N) (hU : Us os)
    (hb : SlR w (fun b => b < base) .u64 B lb) (hub : Us lb) (hn : n = lb.length) (hN : off + lb.length = N) (l8 : N ≤ 1000) (hbg : base ≤ g) (_hbw : base ≤ w.heap.size) :
    Calls Tryd.prog 77 #[.int .u64 (mk m), .slice (some ⟨g, off, none⟩) n cap, .slice B lb.length d] w fun e w' => e = .returned (.tuple #[]) ∧
      ∃ (os2 : List Int) (c : Int), OwnK w' base 26 .u64 (.slice (some ⟨g, 0, none⟩) N N) os2 ∧ os2.length = N ∧ Us os2 ∧ uv os2 = uv os - M off * (b1 m * uv lb) + M N * c ∧ Below base w w' := by
  have HO0 := Lib.hid hO
  have HL0 := Lib.hid hL
  have HU0 := Lib.hid hU
  have HN := Lib.hid hn
  have HNN := Lib.hid hN
  have hnn : (n : Int) = (lb.length : Int) := by omega
  clear hO hL hU hn hN
  go_enter Tryd.func77, Tryd.ntmps77
  go_wp2
  go_loopw [6, 10] (fun cr i wr => SubWRel w base g N off m os lb cr i wr) (fun _ i _ => lb.length - (intOf i).toNat)
  case atStart => exact ⟨0, os, 0, rfl, rfl, Nat.zero_le _, HO0.out, HL0.out, HU0.out, by decide, by decide, by simp [uv], Below.refl _ _⟩
  case round =>
    obtain ⟨k, os2, cr, rfl, rfl, hk, hown, hlo, hu, hc0, hc1, huv, hbl⟩ := hrel
    have HO := Lib.hid hown
    have HL := Lib.hid hlo
    have HU := Lib.hid hu
    have HV := Lib.hid huv
    clear hown hlo hu huv
    by_cases hgo : k < lb.length
    · have hkn : off + k < N := by have := HNN.out; omega
      have hgo3 : k < n := by have := HN.out; omega
      obtain ⟨b, boff, rfl, hbb, hcb⟩ := (hb.keep fun b o h _ => hbl.cell (p := ⟨b, o, none⟩) h).at_ hgo
      rw [← dgt_lt hgo] at hcb
      have hco := HO.out.cell_ HL.out hkn
      have hfo := HO.out.frozen_ HL.out (off + k)
      have hUb := hub.dgt k
      have hUo := HU.out.dgt (off + k)
      have hUc : U cr := by unfold U; omega
      have hUm := U_and hUb (U_mk m)
      have HC := Lib.hid (show cr % 2 = cr by omega)
      have HA := Lib.hid (and_mk' hUb m)
      clear hb
      go_wp2_with (fail)
      go_region_law (first | (go_simp; go_at_call 81; refine (wordSub_any _ _ _ hUo hUm hUc _).mono ?_; rintro e w' ⟨rfl, hw'⟩; obtain rfl := hw'.symm))
      all_goals go_wp2_with (fail)
      all_goals
        go_roundw
        case rel =>
          have hp : off + k < os2.length := by rw [HL.out]; exact hkn
          refine ⟨k + 1, os2.set (off + k) (lo (dgt os2 (off + k) - bits .and .u64 (dgt lb k) (mk m) - cr % 2)), _, by go_num, rfl, hgo, (OwnK.set_ (os := os2) (by exact HO.out) HL.out (off + k) _).1, by rw [List.length_set]; exact HL.out, HU.out.set_ _ (U_lo _), ?_, ?_,
            usubw_step hp (by rw [HC.out, HA.out]) HV.out, (below_drewN' hbl 1).setCell (p := ⟨g, off + k, none⟩) hbg _⟩
          · exact (bo_diff hUo hUm (by omega) (by omega)).1
          · exact (bo_diff hUo hUm (by omega) (by omega)).2
        case measure => simp [intOf]; omega
    · have HE := Lib.hid (show uv os2 = uv os - M off * (b1 m * uv lb) + M N * cr by
        have h := HV.out
        rw [List.take_of_length_le (by omega), show off + k = N by have := HNN.out; omega] at h
        omega)
      clear hb
      go_wp2
      go_end0
      exact ⟨rfl, os2, cr, HO.out, HL.out, HU.out, HE.out, hbl⟩
def UMulRel (W : World) (la lb : List Int) (i : Value) (wr : World) : Prop :=
  ∃ (k : Nat) (os : List Int), i = .int .i64 k ∧ k ≤ la.length ∧ OwnK wr W.heap.size 26 .u64 (.slice (some ⟨W.heap.size, 0, none⟩) (la.length + lb.length) (la.length + lb.length)) os ∧ os.length = la.length + lb.length ∧ Us os ∧ uv os = uv (la.take k) * uv lb ∧
    (∀ t, k + lb.length ≤ t → dgt os t = 0) ∧ Below W.heap.size W wr
def UMulRel2 (W : World) (la lb : List Int) (k : Nat) (cr j : Value) (wr : World) : Prop :=
  ∃ (t : Nat) (os : List Int) (c : Int), j = .int .i64 t ∧ cr = .int .u64 c ∧ t ≤ lb.length ∧ OwnK wr W.heap.size 26 .u64 (.slice (some ⟨W.heap.size, 0, none⟩) (la.length + lb.length) (la.length + lb.length)) os ∧ os.length = la.length + lb.length ∧ Us os ∧ U c ∧
    uv os + M (k + t) * c = uv (la.take k) * uv lb + M k * (dgt la k * uv (lb.take t)) ∧ (∀ t, k + lb.length ≤ t → dgt os t = 0) ∧ Below W.heap.size W wr
/-- What stands after the first correction. -/
def AtCorr (W : World) (la lb : List Int) (wx : World) : Prop :=
  ∃ (os : List Int) (c : Int), OwnK wx W.heap.size 26 .u64 (.slice (some ⟨W.heap.size, 0, none⟩) (la.length + lb.length) (la.length + lb.length)) os ∧ os.length = la.length + lb.length ∧ Us os ∧
    uv os = uv la * uv lb - M la.length * (b1 (neg la) * uv lb) + M (la.length + lb.length) * c ∧ Below W.heap.size W wx
set_option maxHeartbeats 4000000 in
theorem limbMul_yes (A B : Option Addr) (c d : Nat) (la lb : List Int) (w : World) (hw : Wts w) (ha : Arg w A c la) (hb : Arg w B d lb) (l1 : 1 ≤ la.length) (l2 : 1 ≤ lb.length) (l8 : la.length + lb.length ≤ 8) :
    Calls Tryd.prog 70 #[.slice A la.length c, .slice B lb.length d] w (GivesU w (limbs (la.length + lb.length) (sv la * sv lb))) := by
  have hmk := run_make_row' (P := Tryd.prog) 70 26 (.int .u64 0) 8 Tryd.underlying70 infoU rfl .i64 .i64 (la.length + lb.length) (by omega) (by omega)
  simp only [Int.natCast_add] at hmk
  have HUA := Lib.hid ha.us
  have HUB := Lib.hid hb.us
  have hbl0 : Below w.heap.size w (w.alloc (.cells (madeCells #[.int .u64 0] (la.length + lb.length)) 26)) := (Below.refl _ _).alloc (Nat.le_refl _) _
  go_enter Tryd.func70, Tryd.ntmps70
  go_wp2_with (fail)
  refine (isInteger_yes _ _ _ _ l1 (by omega)).mono ?_
  rintro e w' ⟨rfl, hw1⟩
  obtain rfl := hw1.symm
  go_wp2_with (fail)
  refine (isInteger_yes _ _ _ _ l2 (by omega)).mono ?_
  rintro e w' ⟨rfl, hw1⟩
  obtain rfl := hw1.symm
  go_wp2_with (fail)
  refine (isWidth_yes _ _ (by omega) (by omega)).mono ?_
  rintro e w' ⟨rfl, hw1⟩
  obtain rfl := hw1.symm
  have hwr : IntKind.i64.wrap ((la.length : Int) + (lb.length : Int)) = (la.length : Int) + (lb.length : Int) := i64_small (by omega) (by omega)
  go_wp2
  clear hmk
  go_loopw [7, 34] (fun _ i wr => UMulRel w la lb i wr) (fun _ i _ => la.length - (intOf i).toNat)
  case atStart =>
    exact ⟨0, List.replicate (la.length + lb.length) 0, rfl, Nat.zero_le _, own_made w (la.length + lb.length) (by omega), List.length_replicate .., zeros_us _, by rw [zeros_uv]; simp [uv], fun t _ => by rw [dgt_replicate]; split <;> rfl, hbl0⟩
  case round =>
    obtain ⟨k, os, rfl, hk, hown, hlo, hu, huv, hz, hbl⟩ := hrel
    have HO := Lib.hid hown
    have HL := Lib.hid hlo
    have HU := Lib.hid hu
    have HV := Lib.hid huv
    have HZ := Lib.hid hz
    clear hown hlo hu huv hz hbl0
    by_cases hgo : k < la.length
    · go_wp2
      go_loopw [7, 39] (fun cr j wr => UMulRel2 w la lb k cr j wr) (fun _ j _ => lb.length - (intOf j).toNat)
      case atStart => exact ⟨0, os, 0, rfl, rfl, Nat.zero_le _, HO.out, HL.out, HU.out, U_zero, by rw [HV.out]; simp [uv], HZ.out, hbl⟩
      case round =>
        clear hbl HO HL HU HV HZ
        obtain ⟨t, os2, cr, rfl, rfl, ht, hown, hlo, hu, hUc, huv, hz, hbl⟩ := hrel
        have HO := Lib.hid hown
        have HL := Lib.hid hlo
        have HU := Lib.hid hu
        have HV := Lib.hid huv
        have HZ := Lib.hid hz
        clear hown hlo hu huv hz
        by_cases hgo2 : t < lb.length
        · obtain ⟨b, off, rfl, _, hca⟩ := (ha.sl.next hbl).at_ hgo
          obtain ⟨b2, off2, rfl, _, hcb⟩ := (hb.sl.next hbl).at_ hgo2
          rw [← dgt_lt hgo] at hca
          rw [← dgt_lt hgo2] at hcb
          have hco := HO.out.cell_ HL.out (show k + t < la.length + lb.length by omega)
          have hfo := HO.out.frozen_ HL.out (k + t)
          have hUa := HUA.out.dgt k
          have hUb := HUB.out.dgt t
          have hUo := HU.out.dgt (k + t)
          have e1 : IntKind.i64.wrap ((k : Int) + (t : Int)) = (k : Int) + (t : Int) := i64_small (by omega) (by omega)
          have e2 : ((k : Int) + (t : Int)).toNat = k + t := by omega
          have e3 : (0 : Int) ≤ (k : Int) + (t : Int) := by omega
          have e7 : (k : Int) + (t : Int) < (la.length : Int) + (lb.length : Int) := by omega
          clear ha hb
          go_wp2_with (fail)
          go_region_law (first | (go_simp; go_at_call 76; refine (wordMulAdd_any _ _ _ _ hUa hUb hUo hUc _).mono ?_; rintro e w' ⟨rfl, hw'⟩; obtain rfl := hw'.symm))
          all_goals go_wp2_with (fail)
          all_goals clear e1 e2 e3 e7
          all_goals
            go_roundw
            case rel =>
              have hp : k + t < os2.length := by rw [HL.out]; omega
              exact ⟨t + 1, os2.set (k + t) (lo (dgt la k * dgt lb t + dgt os2 (k + t) + cr)), _, by go_num, rfl, hgo2, (OwnK.set_ (os := os2) (by exact HO.out) HL.out (k + t) _).1, by rw [List.length_set]; exact HL.out, HU.out.set_ _ (U_lo _), U_hi_mulAdd hUa hUb hUo hUc, umul_step hp rfl HV.out,
                fun i hi => by rw [dgt_set _ hp, if_neg (by omega)]; exact HZ.out i hi, (below_drewN' hbl 1).setCell (p := ⟨w.heap.size, k + t, none⟩) (Nat.le_refl _) _⟩
            case measure => simp [intOf]; omega
        · have htl : t = lb.length := by omega
          subst htl
          have hco := HO.out.cell_ HL.out (show k + lb.length < la.length + lb.length by omega)
          have hfo := HO.out.frozen_ HL.out (k + lb.length)
          have e1 : IntKind.i64.wrap ((k : Int) + (lb.length : Int)) = (k : Int) + (lb.length : Int) := i64_small (by omega) (by omega)
          have e2 : ((k : Int) + (lb.length : Int)).toNat = k + lb.length := by omega
          have e7 : (k : Int) + (lb.length : Int) < (la.length : Int) + (lb.length : Int) := by omega
          clear ha hb
          go_wp2_with (fail)
          clear e1 e2 e7
          go_roundw
          case rel =>
            have hp : k + lb.length < os2.length := by rw [HL.out]; omega
            have hset := OwnK.set_ HO.out HL.out (k + lb.length) cr
            exact ⟨k + 1, _, by go_num, hgo, hset.1, hset.2, HU.out.set_ _ hUc, umul_row hp (HZ.out _ (Nat.le_refl _)) HV.out,
              fun i hi => by rw [dgt_set _ hp, if_neg (by omega)]; exact HZ.out i (by omega), hbl.setCell (p := ⟨w.heap.size, k + lb.length, none⟩) (Nat.le_refl _) _⟩
          case measure => simp [intOf]; omega
    · have HP := Lib.hid (show uv os = uv la * uv lb by rw [HV.out, List.take_of_length_le (by omega)])
      have hw1 := hw.below hbl
      have ha1 := ha.sl.next hbl
      have hb1 := hb.sl.next hbl
      have hA := (ha.sl.lt.imp (T := fun b => b < w.heap.size) fun b h => h.2)
      have hB := (hb.sl.lt.imp (T := fun b => b < w.heap.size) fun b h => h.2)
      have hbs := hbl.size
      have hq1 : (la.length : Int) ≤ (la.length : Int) + (lb.length : Int) := by omega
      have hq2 : (lb.length : Int) ≤ (la.length : Int) + (lb.length : Int) := by omega
      have hq3 : ¬ lb = [] := fun h => by rw [h] at l2; simp at l2
      have hq4 : ¬ la = [] := fun h => by rw [h] at l1; simp at l1
      clear HV HZ ha hb
      go_wp2_with (fail)
      go_cut [82] (fun _ wx => AtCorr w la lb wx)
      case first =>
        go_region_law (first
          | (go_simp; go_at_call 50; refine (above_any A c la (fun _ => True) _ (by exact hw1) (by exact ha1) HUA.out l1 (by omega)).mono ?_; rintro e w' ⟨rfl, n1, rfl⟩)
          | (go_simp; go_at_call 77; refine (subtractWhere_any (neg la) w.heap.size la.length lb.length lb.length w.heap.size (la.length + lb.length) B d os lb _ (by exact HO.out) HL.out HU.out (hB.next (by exact below_drewN' hbl _)) HUB.out rfl rfl (by omega) (Nat.le_refl _) (by exact hbs)).mono ?_; rintro e w' ⟨rfl, hx⟩; have HX := Lib.hid hx; clear hx))
        all_goals go_step
        all_goals go_step
        all_goals go_meet
        all_goals obtain ⟨os2, c2, ho2, hl2, hu2, hv2, hbl2⟩ := HX.out
        all_goals exact ⟨os2, c2, ho2, hl2, hu2, by rw [← HP.out]; exact hv2, (below_drewN' hbl _).trans hbl2⟩
      case rest =>
        obtain ⟨os2, c2, ho2, hl2, hu2, hv2, hbl2⟩ := hcut
        have HO2 := Lib.hid ho2
        have HL2 := Lib.hid hl2
        have HU2 := Lib.hid hu2
        have HV2 := Lib.hid hv2
        have hw2 := hw.below hbl2
        have hb2 := hB.next hbl2
        have ha2 := hA.next hbl2
        have hbs2 := hbl2.size
        clear ho2 hl2 hu2 hv2 HO HL HU HP hw1 ha1 hb1 hA hB hbs
        go_wp2_with (fail)
        go_region_law (first
          | (go_simp; go_at_call 50; refine (above_any B d lb (fun b => b < w.heap.size) _ (by exact hw2) (by exact hb2) HUB.out l2 (by omega)).mono ?_; rintro e w' ⟨rfl, n1, rfl⟩)
          | (go_simp; go_at_call 77; refine (subtractWhere_any (neg lb) w.heap.size lb.length la.length la.length w.heap.size (la.length + lb.length) A c os2 la _ (by exact HO2.out) HL2.out HU2.out (by exact ha2) HUA.out rfl (by omega) (by omega) (Nat.le_refl _) (by exact hbs2)).mono ?_; rintro e w' ⟨rfl, hx⟩; have HX := Lib.hid hx; clear hx))
        all_goals go_wp2
        all_goals go_ret
        all_goals
          obtain ⟨os3, c3, ho3, hl3, hu3, hv3, hbl3⟩ := HX.out
          have HE := mul_end hl3 HUA.out HUB.out hu3 (c := c2) (d := c3) (by rw [hv3, HV2.out])
          rw [← HE]
          exact (own_gives (w := w) ho3 hl3 ((below_drewN' hbl2 _).trans hbl3)).u
end Go.Proofs.YtehnpmkolabiaaaDoor
