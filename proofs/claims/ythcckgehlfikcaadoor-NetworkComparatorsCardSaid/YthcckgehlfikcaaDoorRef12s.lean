/-
  The reference of layer 12: Comparators of any number, Sorted.
-/
import Derived.Test.YthcckgehlfikcaaDoorRef12
namespace Go.Proofs.YthcckgehlfikcaaDoor
open Go.RowKit
set_option maxRecDepth 100000
set_option linter.unusedVariables false
set_option linter.unusedSimpArgs false

theorem lgN_pow {q : Nat} (hq : q ≤ 12) : lgN (2 ^ q : Nat) = q :=
  lgN_eq (by omega) (fun b hb => by have := Nat.pow_lt_pow_right (a := 2) (by omega) hb; omega) hq
/-- The comparators for n, if there are any. -/
def compsN (n : Int) : List (Nat × Nat) := if isN n then Net.comps (lgN n) else []
theorem ref12Comparators_any (n : Int) (w : World) : Calls Tryd.prog 13 #[.int .i64 n] w fun e w' => ∃ v, e = .returned v ∧ RowC w.heap.size w w' v (compsN n) := by
  by_cases h : isN n = true
  · obtain ⟨q, hq, rfl⟩ := (isN_iff n).1 h
    have e : compsN (2 ^ q : Nat) = Net.comps q := by unfold compsN; rw [if_pos h, lgN_pow hq]
    rw [e]
    exact ref12Comparators_yes q hq w
  · have h' : isN n = false := by simpa using h
    have e : compsN n = [] := by unfold compsN; rw [if_neg h]
    rw [e]
    go_enter Tryd.func13, Tryd.ntmps13
    go_wp2_with (fail)
    refine (ref12Is_any n w false h').mono ?_
    rintro e w' ⟨rfl, hw'⟩
    obtain rfl := hw'.symm
    go_wp2
    go_ret
    exact ⟨_, rfl, World.ownsRow_nil _ _ _ _, Below.refl _ _⟩
/-! ### Sorted -/
theorem infoW12 : (Tryd.prog.info? 38).map (fun i => (i.zero, i.size, i.bytes)) = some (some (.int .u64 0), 1, 8) := by kernel_rfl
/-- ys with z at place m and the others behind. -/
def insAt (ys : List Int) (m : Nat) (z : Int) : List Int := ys.take m ++ z :: ys.drop m
theorem insAt_len {ys : List Int} {m : Nat} {z : Int} : (insAt ys m z).length = ys.length + 1 := by
  unfold insAt; simp [List.length_take, List.length_drop]; omega
theorem insAt_set {ys : List Int} {m : Nat} {z x : Int} (h : m ≤ ys.length) : (insAt ys m z).set m x = insAt ys m x := by
  unfold insAt
  rw [List.set_append_right _ _ (by simp; omega)]
  simp [Nat.min_eq_left h]
theorem insAt_down {ys : List Int} {m : Nat} {z : Int} (h : m + 1 ≤ ys.length) : (insAt ys (m + 1) z).set (m + 1) (dgt ys m) = insAt ys m (dgt ys m) := by
  rw [insAt_set h]
  unfold insAt
  rw [List.take_succ_eq_append_getElem (by omega), List.append_assoc, List.cons_append, List.nil_append, dgt_lt (by omega), List.drop_eq_getElem_cons (show m < ys.length by omega)]
theorem insAt_dgt {ys : List Int} {m : Nat} {z : Int} (h : m + 1 ≤ ys.length) : dgt (insAt ys (m + 1) z) m = dgt ys m := by
  rw [dgt_lt (by rw [insAt_len]; omega), dgt_lt (by omega)]
  unfold insAt
  rw [List.getElem_append_left (by simp; omega)]
  simp
theorem insAt_sorted {ys : List Int} {k : Nat} {x : Int} (hs : ys.Pairwise (· ≤ ·)) (hk : k ≤ ys.length) (h1 : ∀ j, j < k → dgt ys j ≤ x) (h2 : k < ys.length → x < dgt ys k) : (insAt ys k x).Pairwise (· ≤ ·) := by
  unfold insAt
  have hsplit := hs
  rw [← List.take_append_drop k ys, List.pairwise_append] at hsplit
  obtain ⟨p1, p2, p3⟩ := hsplit
  rw [List.pairwise_append, List.pairwise_cons]
  have ha : ∀ a ∈ ys.take k, a ≤ x := fun a ha => by
    obtain ⟨j, hj, rfl⟩ := List.mem_iff_getElem.1 ha
    rw [List.length_take] at hj
    have hj1 := Nat.lt_min.1 hj
    have := h1 j hj1.1
    rw [dgt_lt hj1.2] at this
    simpa using this
  have hb : ∀ b ∈ ys.drop k, x ≤ b := fun b hb => by
    obtain ⟨j, hj, rfl⟩ := List.mem_iff_getElem.1 hb
    simp at hj
    have hk2 : k < ys.length := by omega
    have h3 := h2 hk2
    rw [dgt_lt hk2] at h3
    have h4 : ys[k] ≤ ys[k + j] := by
      by_cases e : j = 0
      · subst e; exact Int.le_refl _
      · exact (List.pairwise_iff_getElem.1 hs) k (k + j) hk2 (by omega) (by omega)
    simp only [List.getElem_drop]
    omega
  exact ⟨p1, ⟨hb, p2⟩, fun a h b h' => by
    rcases List.mem_cons.1 h' with rfl | h'
    · exact ha a h
    · exact p3 a h b h'⟩
theorem insAt_perm {ys zs : List Int} {k : Nat} {x : Int} (h : ys.Perm zs) : (insAt ys k x).Perm (zs ++ [x]) := by
  unfold insAt
  refine (List.perm_middle).trans ?_
  rw [List.take_append_drop]
  exact (h.cons x).trans (List.perm_append_singleton x zs).symm
theorem OwnK.drewN1 {w : World} {base : Nat} {e : TypeId} {k : IntKind} {v : Value} {os : List Int} (h : OwnK w base e k v os) (n : Nat) : OwnK (w.drewN n) base e k v os := h
set_option maxHeartbeats 8000000 in
theorem ref12Sorted_any (A : Option Addr) (c : Nat) (xs : List Int) (S : Nat → Prop) (w : World) (ha : SlR w S .u64 A xs) (hl : xs.length ≤ 100000) (hU : Us xs) :
    Calls Tryd.prog 20 #[.slice A xs.length c] w fun e w' => ∃ v ys, e = .returned v ∧ OwnK w' w.heap.size 38 .u64 v ys ∧ ys.Pairwise (· ≤ ·) ∧ ys.Perm xs ∧ Below w.heap.size w w' := by
  obtain ⟨i0, hi, hz0, hz1, hz2⟩ := info_parts infoW12
  go_enter Tryd.func20, Tryd.ntmps20
  go_wp2
  go_loopw [3, 4] (fun v i wr => ∃ (t : Nat) (ys : List Int), i = .int .i64 t ∧ t ≤ xs.length ∧ ys.length = t ∧ OwnK wr w.heap.size 38 .u64 v ys ∧ ys.Pairwise (· ≤ ·) ∧ ys.Perm (xs.take t) ∧ Below w.heap.size w wr) (fun _ i _ => xs.length - (intOf i).toNat)
  case atStart => exact ⟨0, [], rfl, Nat.zero_le _, rfl, OwnK.nil_ _ _ _ _, .nil, by simp, Below.refl _ _⟩
  case round =>
    obtain ⟨t, ys, rfl, ht, hyl, hown, hs, hp, hb⟩ := hrel
    by_cases hgo : t < xs.length
    · obtain ⟨b, o, rfl, _, hcx⟩ := (ha.next hb).at_ hgo
      obtain ⟨x, hx⟩ : ∃ x, x = xs[t]'hgo := ⟨_, rfl⟩
      have hux := hU _ (List.getElem_mem hgo)
      rw [← hx] at hcx hux
      have hx0 : 0 ≤ x := hux.1
      have HP2 := Lib.hid (show (xs.take t ++ [x]) = xs.take (t + 1) by rw [List.take_succ_eq_append_getElem hgo, hx])
      have HX := Lib.hid hx
      clear hx hux
      obtain ⟨A1, c1, rfl, hc1, hg1⟩ := hown.slice_ hyl
      have HS := Lib.hid hs
      have HP := Lib.hid hp
      have HYL := Lib.hid hyl
      clear hs hp
      have hbs := hb.size
      go_wp2
      go_loopw [5] (fun k w2 => ∃ k' n : Nat, k = .int .i64 k' ∧ k' ≤ t ∧ (∀ j, j < k' → dgt ys j ≤ x) ∧ w2 = wr.drewN n) (fun k _ => t - (intOf k).toNat)
      case atStart => exact ⟨0, 0, rfl, Nat.zero_le _, fun j h => by omega, rfl⟩
      case round =>
        obtain ⟨k, n, rfl, hk, hle, rfl⟩ := hrel
        have HLE := Lib.hid hle
        clear hle
        have fin : True := trivial
        by_cases hkt : k < t
        · obtain ⟨g, rfl, hgb⟩ := hg1 (by omega)
          have hcell := hown.cell_ hyl hkt
          obtain ⟨y, hy⟩ : ∃ y, y = dgt ys k := ⟨_, rfl⟩
          rw [← hy] at hcell
          have HY := Lib.hid hy
          clear hy hyl
          by_cases hyx : y ≤ x
          · have hkt2 : (k : Int) < t := by omega
            go_wp2
            go_quiet (fail)
            go_wp2
            go_roundw
            case rel =>
              refine ⟨k + 1, n + nq, by go_num, hkt, fun j hj => ?_, by simp [go_sem]⟩
              by_cases e : j = k
              · subst e; rw [← HY.out]; exact hyx
              · exact HLE.out j (by omega)
            case measure => simp [intOf]; omega
          · have hkt2 : (k : Int) < t := by omega
            have HK2 := Lib.hid (show k < ys.length → x < dgt ys k from fun _ => by rw [← HY.out]; omega)
            go_wp2
            go_quiet (fail)
            clear hg1
            have hlen : ys.length ≤ 1000000000 := by have := HYL.out; omega
            go_wp2_with (at_builtin; refine wp_app1 rfl _ _ 36 rfl w.heap.size 38 .u64 i0 _ Tryd.underlying36 hi hz0 hz1 hz2 rfl _ ys _ rfl (OwnK.drewN1 hown _) rfl hlen (by have := hb.size; simpa using this) ?_; intro v' w3 hown3 hb3; obtain ⟨A2, c2, rfl, hc2, hg2⟩ := hown3.slice_ (n := t + 1) (by rw [List.length_append, HYL.out]; rfl); obtain ⟨g2, rfl, hgb2⟩ := hg2 (by omega))
            have hb4 := (below_drewN' hb (n + nq)).trans hb3
            have hown4 : OwnK w3 w.heap.size 38 .u64 (.slice (some ⟨g2, 0, none⟩) (t + 1) c2) (insAt ys t 0) := by
              unfold insAt; rw [← HYL.out, List.take_length, List.drop_length]; rw [HYL.out]; exact hown3
            clear hown3 hown hb3 hb hcx hlen hbs hc1 hc2 HY fin
            go_loopw [6] (fun m w4 => ∃ (m' : Nat) (z : Int), m = .int .i64 m' ∧ k ≤ m' ∧ m' ≤ t ∧ OwnK w4 w.heap.size 38 .u64 (.slice (some ⟨g2, 0, none⟩) (t + 1) c2) (insAt ys m' z) ∧ Below w.heap.size w w4) (fun m _ => (intOf m).toNat)
            case atStart => exact ⟨t, 0, congrArg (Value.int .i64) (by push_cast; omega), hk, Nat.le_refl _, hown4, hb4⟩
            case round =>
              clear hown4 hb4
              obtain ⟨m, z, rfl, hkm, hmt, hown, hb⟩ := hrel
              have HLI := Lib.hid (show (insAt ys m z).length = t + 1 by rw [insAt_len, HYL.out])
              by_cases hlt : k < m
              · obtain ⟨m, rfl⟩ : ∃ m', m = m' + 1 := ⟨m - 1, by omega⟩
                have hcell := hown.cell_ HLI.out (j := m) (by omega)
                rw [insAt_dgt (by rw [HYL.out]; exact hmt)] at hcell
                have hcell2 := hown.cell_ HLI.out (j := m + 1) (by omega)
                have hfr := hown.frozen_ HLI.out (m + 1)
                have HSET := Lib.hid ((hown.set_ HLI.out (m + 1) (dgt ys m)).1)
                rw [insAt_down (by rw [HYL.out]; exact hmt)] at HSET
                obtain ⟨y2, hy2⟩ : ∃ y2, y2 = dgt ys m := ⟨_, rfl⟩
                obtain ⟨y3, hy3⟩ : ∃ y3, y3 = dgt (insAt ys (m + 1) z) (m + 1) := ⟨_, rfl⟩
                rw [← hy2] at hcell HSET
                rw [← hy3] at hcell2
                clear hy2 hy3 hown
                have hlt2 : (k : Int) < (m : Int) + 1 := by omega
                go_wp2
                exact ⟨⟨m, y2, rfl, by omega, by omega, HSET.out, hb.setCell (p := ⟨g2, _, none⟩) hgb2 _⟩, by simp [intOf]⟩
              · have hlt2 : ¬ (k : Int) < m := by omega
                obtain rfl : m = k := by omega
                have hcell := hown.cell_ HLI.out (j := m) (by omega)
                have hfr := hown.frozen_ HLI.out m
                have HSET := Lib.hid ((hown.set_ HLI.out m x).1)
                rw [insAt_set (by rw [HYL.out]; exact hmt)] at HSET
                obtain ⟨b', o', e, _, hcx2⟩ := (ha.next hb).at_ hgo
                injection e with e
                injection e with e1 e2
                subst e1 e2
                rw [← HX.out] at hcx2
                obtain ⟨y3, hy3⟩ : ∃ y3, y3 = dgt (insAt ys m z) m := ⟨_, rfl⟩
                rw [← hy3] at hcell
                clear hy3 hown
                go_wp2
                go_roundw
                case rel => exact ⟨t + 1, insAt ys m x, by go_num, hgo, by rw [insAt_len, HYL.out], HSET.out, insAt_sorted HS.out (by rw [HYL.out]; exact hmt) HLE.out HK2.out, by rw [← HP2.out]; exact insAt_perm HP.out, hb.setCell (p := ⟨g2, _, none⟩) hgb2 _⟩
                case measure => simp [intOf]; omega
        · have hkt2 : ¬ (k : Int) < t := by omega
          have HK2 := Lib.hid (show k < ys.length → x < dgt ys k from fun h => by have := HYL.out; omega)
          go_wp2
          go_quiet (fail)
          clear hg1
          have hlen : ys.length ≤ 1000000000 := by have := HYL.out; omega
          go_wp2_with (at_builtin; refine wp_app1 rfl _ _ 36 rfl w.heap.size 38 .u64 i0 _ Tryd.underlying36 hi hz0 hz1 hz2 rfl _ ys _ rfl (OwnK.drewN1 hown _) rfl hlen (by have := hb.size; simpa using this) ?_; intro v' w3 hown3 hb3; obtain ⟨A2, c2, rfl, hc2, hg2⟩ := hown3.slice_ (n := t + 1) (by rw [List.length_append, HYL.out]; rfl); obtain ⟨g2, rfl, hgb2⟩ := hg2 (by omega))
          have hb4 := (below_drewN' hb (n + nq)).trans hb3
          have hown4 : OwnK w3 w.heap.size 38 .u64 (.slice (some ⟨g2, 0, none⟩) (t + 1) c2) (insAt ys t 0) := by
            unfold insAt; rw [← HYL.out, List.take_length, List.drop_length]; rw [HYL.out]; exact hown3
          clear hown3 hown hb3 hb hcx hlen hbs hc1 hc2 fin
          go_loopw [6] (fun m w4 => ∃ (m' : Nat) (z : Int), m = .int .i64 m' ∧ k ≤ m' ∧ m' ≤ t ∧ OwnK w4 w.heap.size 38 .u64 (.slice (some ⟨g2, 0, none⟩) (t + 1) c2) (insAt ys m' z) ∧ Below w.heap.size w w4) (fun m _ => (intOf m).toNat)
          case atStart => exact ⟨t, 0, congrArg (Value.int .i64) (by push_cast; omega), hk, Nat.le_refl _, hown4, hb4⟩
          case round =>
            clear hown4 hb4
            obtain ⟨m, z, rfl, hkm, hmt, hown, hb⟩ := hrel
            have HLI := Lib.hid (show (insAt ys m z).length = t + 1 by rw [insAt_len, HYL.out])
            by_cases hlt : k < m
            · exfalso; omega
            · have hlt2 : ¬ (k : Int) < m := by omega
              obtain rfl : m = k := by omega
              have hcell := hown.cell_ HLI.out (j := m) (by omega)
              have hfr := hown.frozen_ HLI.out m
              have HSET := Lib.hid ((hown.set_ HLI.out m x).1)
              rw [insAt_set (by rw [HYL.out]; exact hmt)] at HSET
              obtain ⟨b', o', e, _, hcx2⟩ := (ha.next hb).at_ hgo
              injection e with e
              injection e with e1 e2
              subst e1 e2
              rw [← HX.out] at hcx2
              obtain ⟨y3, hy3⟩ : ∃ y3, y3 = dgt (insAt ys m z) m := ⟨_, rfl⟩
              rw [← hy3] at hcell
              clear hy3 hown
              go_wp2
              go_roundw
              case rel => exact ⟨t + 1, insAt ys m x, by go_num, hgo, by rw [insAt_len, HYL.out], HSET.out, insAt_sorted HS.out (by rw [HYL.out]; exact hmt) HLE.out HK2.out, by rw [← HP2.out]; exact insAt_perm HP.out, hb.setCell (p := ⟨g2, _, none⟩) hgb2 _⟩
              case measure => simp [intOf]; omega
    · have HT := Lib.hid (show t = xs.length by omega)
      clear ha
      go_wp2
      go_ret
      exact ⟨_, ys, rfl, hown, hs, by have := hp; rwa [HT.out, List.take_length] at this, hb⟩
end Go.Proofs.YthcckgehlfikcaaDoor
