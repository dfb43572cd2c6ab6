/-
  NetworkRounds: each round of the network holds each index once.
-/
import Derived.Test.YthcckgehlfikcaaDoorLaw12c
import Derived.Test.YthcckgehlfikcaaDoorNetR
import Derived.IntWalk
namespace Go.Proofs.YthcckgehlfikcaaDoor
open Go.RowKit
set_option linter.unusedVariables false
set_option linter.unusedSimpArgs false
set_option maxRecDepth 100000

/-- How many rounds. -/
theorem roundsN_pow {q : Nat} (h : q ≤ 12) : roundsN ((2 ^ q : Nat) : Int) = ((q * (q + 1) / 2 : Nat) : Int) := by
  unfold roundsN
  rw [if_pos ((isN_iff _).2 ⟨q, h, rfl⟩), lgN_pow h]
theorem compsN_pow {q : Nat} (h : q ≤ 12) : compsN ((2 ^ q : Nat) : Int) = Net.comps q := by
  unfold compsN
  rw [if_pos ((isN_iff _).2 ⟨q, h, rfl⟩), lgN_pow h]
theorem flat_len {h : Nat} : ∀ R : List (List (Nat × Nat)), (∀ L ∈ R, L.length = h) → R.flatten.length = R.length * h
  | [], _ => by simp
  | L :: R, hR => by
    rw [List.flatten_cons, List.length_append, hR L (.head _), flat_len R fun x hx => hR x (.tail _ hx), List.length_cons, Nat.succ_mul]; omega
def lenV : Value → Nat
  | .slice _ n _ => n
  | _ => 0
theorem infoB12 : (Tryd.prog.info? 4).map (fun i => (i.zero, i.size, i.bytes)) = some (some (.bool false), 1, 1) := by kernel_rfl
/-- Is an index in a pair of the list? -/
def used (L : List (Nat × Nat)) (x : Nat) : Bool := L.any fun c => x == c.1 || x == c.2
def usedV (L : List (Nat × Nat)) (n : Nat) : List Value := (List.range n).map fun x => .bool (used L x)
theorem usedV_at (L : List (Nat × Nat)) {n x : Nat} (h : x < n) : (usedV L n)[x]? = some (.bool (used L x)) := by simp [usedV, h]
theorem usedV_nil (n : Nat) : usedV [] n = List.replicate n (.bool false) := by
  refine List.eq_replicate_iff.2 ⟨by simp [usedV], fun v hv => ?_⟩
  obtain ⟨x, _, rfl⟩ := List.mem_map.1 hv
  rfl
theorem usedV_step (L : List (Nat × Nat)) {n j : Nat} (hj : j < L.length) (h1 : (L[j]'hj).1 < n) (h2 : (L[j]'hj).2 < n) : ((usedV (L.take j) n).set (L[j]'hj).1 (.bool true)).set (L[j]'hj).2 (.bool true) = usedV (L.take (j + 1)) n := by
  have e : ∀ x, used (L.take (j + 1)) x = (used (L.take j) x || (x == (L[j]'hj).1 || x == (L[j]'hj).2)) := fun x => by
    unfold used
    rw [List.take_succ_eq_append_getElem hj, List.any_append]; simp
  generalize L[j]'hj = p at h1 h2 e
  refine List.ext_getElem? fun x => ?_
  by_cases hx : x < n
  · rw [usedV_at _ hx, e x, List.getElem?_set, List.getElem?_set]
    simp only [List.length_set]
    rw [show (usedV (L.take j) n).length = n by simp [usedV], usedV_at _ hx]
    by_cases c2 : p.2 = x
    · subst c2; simp [h2]
    · by_cases c1 : p.1 = x
      · subst c1; simp [h1, c2]
      · rw [if_neg c2, if_neg c1, show (x == p.1) = false by simp; omega, show (x == p.2) = false by simp; omega]; simp
  · rw [List.getElem?_eq_none (by simp [usedV]; omega), List.getElem?_eq_none (by simp [usedV]; omega)]
theorem used_fresh {L : List (Nat × Nat)} {n j : Nat} (h : Net.Once n L) (hj : j < L.length) : used (L.take j) (L[j]'hj).1 = false ∧ used (L.take j) (L[j]'hj).2 = false ∧ (L[j]'hj).1 ≠ (L[j]'hj).2 ∧ (L[j]'hj).1 < n ∧ (L[j]'hj).2 < n := by
  obtain ⟨w1, w2, w3⟩ := h.1 _ (List.getElem_mem hj)
  have hd : ∀ c ∈ L.take j, Net.Disj c (L[j]'hj) := fun c hc => by
    obtain ⟨i, hi, rfl⟩ := List.mem_iff_getElem.1 hc
    rw [List.getElem_take]
    exact List.pairwise_iff_getElem.1 h.2 i j _ hj (by rw [List.length_take] at hi; omega)
  refine ⟨?_, ?_, w3, w1, w2⟩ <;> unfold used <;> rw [List.any_eq_false] <;> intro c hc <;> have := hd c hc <;> unfold Net.Disj at this <;> simp <;> omega
set_option maxHeartbeats 8000000 in
theorem law_networkRounds (power : Int) (w : World) (hw : Wts w) (hp0 : 0 ≤ power) (hp1 : power < 256) : Calls Tryd.prog 7 #[.int .u8 power] w fun e w' => e = .returned (.bool true) ∧ Below w.heap.size w w' := by
  obtain ⟨q, hq, hq8⟩ : ∃ q : Nat, power % 9 = (q : Int) ∧ q ≤ 8 := ⟨(power % 9).toNat, by omega, by omega⟩
  obtain ⟨n, hn, hnq⟩ : ∃ n : Nat, wrap64 (2 ^ q) = (n : Int) ∧ n = 2 ^ q := ⟨2 ^ q, by
    rcases q with _ | _ | _ | _ | _ | _ | _ | _ | _ | q <;> first | decide +kernel | omega, rfl⟩
  obtain ⟨R, hR1, hR2, hR3⟩ := Net.comps_rounds q
  have hcomps : compsN (n : Int) = R.flatten := by rw [hnq, compsN_pow (by omega), hR1]
  have hrounds : roundsN (n : Int) = (R.length : Int) := by
    rw [hnq, roundsN_pow (by omega)]
    have : q * (q + 1) / 2 = R.length := by omega
    rw [this]
  have hn256 : n ≤ 256 := by rw [hnq]; exact Nat.pow_le_pow_right (by omega) hq8
  have hR36 : R.length ≤ 36 := by
    have : q * (q + 1) ≤ 8 * 9 := Nat.mul_le_mul hq8 (by omega)
    omega
  have hquo : ((q : Int) * (q + 1)) / 2 = R.length := by
    have : ((q * (q + 1) : Nat) : Int) / 2 = R.length := by rw [← hR2]; omega
    push_cast at this
    exact this
  obtain ⟨H, hH, hH1, hH2⟩ : ∃ H : Nat, (n : Int) / 2 = (H : Int) ∧ (0 < R.length → 2 * H = n ∧ 1 ≤ H) ∧ H ≤ 128 := ⟨n / 2, by omega, by
    intro h
    rcases q with _ | q
    · omega
    · rw [hnq, Nat.pow_succ]
      have : 0 < 2 ^ q := Nat.pos_of_neZero _
      omega, by omega⟩
  have hflat : R.flatten.length = R.length * H := by
    rcases R with _ | ⟨L, R⟩
    · simp
    · obtain ⟨h1, h2⟩ := hH1 (by simp)
      exact flat_len _ fun X hX => by have := (hR3 X hX).1; omega
  have HQ := Lib.hid hnq
  have HR3 := Lib.hid hR3
  clear hnq hR1 hR3 hR2
  go_enter Tryd.func7, Tryd.ntmps7
  go_wp2_with (fail)
  refine (netComparators_c n w).mono ?_
  rintro e w1 ⟨v, rfl, ⟨hrow, hb1⟩⟩
  rw [hcomps] at hrow
  obtain ⟨A, c, rfl⟩ := row_form hrow
  have HROW := Lib.hid hrow
  clear hrow hcomps
  obtain ⟨M, hM⟩ : ∃ M, M = R.flatten.length := ⟨_, rfl⟩
  rw [← hM]
  have hMd : ((M : Int) != wrap64 ((R.length : Int) * (H : Int))) = false := by
    have h1 : (R.length * H : Nat) ≤ 36 * 128 := Nat.mul_le_mul hR36 hH2
    have h2 : ((R.length * H : Nat) : Int) = (R.length : Int) * (H : Int) := by push_cast; rfl
    rw [IntWalk.wrap64_in _ (by omega), hM, hflat, h2]; simp
  have HM := Lib.hid hM
  have HFL := Lib.hid hflat
  clear hM hflat
  go_wp2_with (fail)
  refine (netRounds_c n _ w1 (hw.below hb1) hrounds).mono ?_
  rintro e w2 ⟨rfl, hb2⟩
  have hbw := hb1.trans (hb2.mono hb1.size)
  go_wp2_with (fail)
  refine (netRounds_c n _ w2 (hw.below hbw) hrounds).mono ?_
  rintro e w3 ⟨rfl, hb3⟩
  have hb3w := hb2.trans (hb3.mono hb2.size)
  have hb03 := hb1.trans (hb3w.mono hb1.size)
  have hrow3 := row_below HROW.out hb3w
  have hmk := run_make_row' (P := Tryd.prog) 42 4 (.bool false) 1 Tryd.underlying42 infoB12 rfl .i64 .i64 n (by omega) (by omega)
  clear hrounds hbw
  go_wp2
  go_loopw [5] (fun v wr => ∃ (pre rest : List (List (Nat × Nat))) (B : Option Addr) (d Z P : Nat), R = pre ++ rest ∧ v = .slice B Z d ∧ Z = rest.flatten.length ∧ P = pre.flatten.length ∧ Z ≤ d ∧
    (0 < Z → ∃ g, A = some ⟨g, 0, none⟩ ∧ B = some ⟨g, P * 2, none⟩) ∧
    wr.ownsRow w.heap.size 31 2 (.slice A M c) R.flatten.length (R.flatten.flatMap pairC) ∧ Below w.heap.size w wr) (fun v _ => lenV v)
  case atStart =>
    refine ⟨[], R, A, c, M, 0, rfl, rfl, HM.out, rfl, ?_, ?_, by rw [HM.out]; exact hrow3, hb03⟩
    · rw [HM.out]
      rcases hrow3.2 with ⟨e1, h1⟩ | ⟨g, cap, cur, e, _, _, hc, _⟩
      · omega
      · injection e with _ _ e3; rw [e3]; exact hc
    · intro h0
      rcases hrow3.2 with ⟨e1, h1⟩ | ⟨g, cap, cur, e, _⟩
      · have := HM.out; omega
      · injection e with e1; exact ⟨g, e1, e1⟩
  case round =>
    obtain ⟨pre, rest, B, d, Z, P, hR, rfl, hZ, hP, hd, hB, hrow, hbl⟩ := hrel
    clear hrow3 hb03 hb3w hb3 hb2 hb1
    by_cases hz : 0 < Z
    · obtain ⟨g, hA, rfl⟩ := hB hz
      have HA := Lib.hid hA
      clear hA
      obtain ⟨hHn, hH0⟩ := hH1 (by rw [hR]; rcases rest with _ | ⟨L, rest⟩ <;> simp at hZ ⊢ <;> omega)
      obtain ⟨L, rest', hL, hLR⟩ : ∃ L rest', rest = L :: rest' ∧ L ∈ R := by
        rcases rest with _ | ⟨L, rest⟩
        · simp at hZ; omega
        · exact ⟨L, rest, rfl, by rw [hR]; simp⟩
      obtain ⟨hLl, hLo⟩ := HR3.out L hLR
      rw [← HQ.out] at hLl hLo
      have hLH : L.length = H := by omega
      obtain ⟨Z', hZ'⟩ : ∃ Z', Z' = rest'.flatten.length := ⟨_, rfl⟩
      have hZZ : Z = H + Z' := by rw [hZ, hL, List.flatten_cons, List.length_append, hLH, hZ']
      have hHZ : H ≤ Z := by omega
      have HRR := Lib.hid hR
      have HZ := Lib.hid hZ
      have HP := Lib.hid hP
      have HL := Lib.hid hL
      have HLL := Lib.hid hLl
      have HLH := Lib.hid hLH
      have HZZ := Lib.hid hZZ
      have HZ' := Lib.hid hZ'
      clear hR hZ hP hB hL hLl hLH hZZ hZ'
      have HHn := Lib.hid hHn
      clear hHn
      have HROW4 := Lib.hid hrow
      clear hrow
      go_wp2
      obtain ⟨w4, rfl⟩ : ∃ w4, w4 = wr := ⟨_, rfl⟩
      have hU0 : (w4.alloc (.cells (madeCells #[.bool false] n) 4)).ownsRow w4.heap.size 4 1 (.slice (some ⟨w4.heap.size, 0, none⟩) n n) n (usedV (L.take 0) n) := by
        have h := World.ownsRow_lit (e := 4) (size := 1) w4 (madeCells #[.bool false] n) n (Nat.le_refl _) (by unfold maxLen; omega) (size_madeCells _ _ |>.trans (by simp))
        rw [toList_madeCells_one] at h
        rw [List.take_zero, usedV_nil]
        exact h
      have hUb : Below w4.heap.size w4 (w4.alloc (.cells (madeCells #[.bool false] n) 4)) := (Below.refl _ _).alloc (Nat.le_refl _) _
      go_loopw [44] (fun i wi => ∃ j : Nat, i = .int .i64 j ∧ j ≤ H ∧ wi.ownsRow w4.heap.size 4 1 (.slice (some ⟨w4.heap.size, 0, none⟩) n n) n (usedV (L.take j) n) ∧ Below w4.heap.size w4 wi) (fun i _ => H - (intOf i).toNat)
      case atStart => exact ⟨0, rfl, Nat.zero_le _, hU0, hUb⟩
      case round =>
        clear hU0 hUb hmk
        obtain ⟨j, rfl, hj, hU, hbi⟩ := hrel
        by_cases hgo : j < H
        · have hjL : j < L.length := by rw [HLH.out]; exact hgo
          have hrowi := row_below HROW4.out hbi
          obtain ⟨f1, f2, f3, f4, f5⟩ := used_fresh hLo hjL
          have hcat : R.flatten = pre.flatten ++ (L ++ rest'.flatten) := by rw [HRR.out, HL.out]; simp
          have hPj : P + j < R.flatten.length := by rw [hcat, List.length_append, List.length_append, ← HP.out]; omega
          obtain ⟨g', c', e, k1, k2⟩ := row_pair hrowi hPj
          have hel : R.flatten[P + j]'hPj = L[j]'hjL := by
            have : R.flatten[P + j]? = some (L[j]'hjL) := by
              rw [hcat, List.getElem?_append_right (by rw [← HP.out]; omega), ← HP.out, show P + j - P = j by omega, List.getElem?_append_left hjL, List.getElem?_eq_getElem hjL]
            rw [List.getElem?_eq_getElem hPj] at this
            injection this
          rw [hel] at k1 k2
          injection e with e1 e2 e3
          clear e2 e3
          rw [HA.out] at e1
          injection e1 with e1
          injection e1 with e1 e2 e3
          clear e2 e3
          subst e1
          rw [Nat.add_mul] at k1 k2
          have hu1 : ∀ o, (wr.alloc o).cell? ⟨w4.heap.size, (L[j]'hjL).1, none⟩ = some (.bool false) := fun o => by rw [← f1]; exact (World.ownsRow.cellAt (World.ownsRow.alloc hU o) (L[j]'hjL).1 (by omega)).trans (usedV_at _ f4)
          have hu2 : ∀ o, (wr.alloc o).cell? ⟨w4.heap.size, (L[j]'hjL).2, none⟩ = some (.bool false) := fun o => by rw [← f2]; exact (World.ownsRow.cellAt (World.ownsRow.alloc hU o) (L[j]'hjL).2 (by omega)).trans (usedV_at _ f5)
          have hz1 : ∀ o, (wr.alloc o).frozen? ⟨w4.heap.size, (L[j]'hjL).1, none⟩ = false := fun o => World.ownsRow.frozenAt (World.ownsRow.alloc hU o) _
          have hz2 : ∀ o, (wr.alloc o).frozen? ⟨w4.heap.size, (L[j]'hjL).2, none⟩ = false := fun o => World.ownsRow.frozenAt (World.ownsRow.alloc hU o) _
          have hv1 : wr.cell? ⟨w4.heap.size, (L[j]'hjL).1, none⟩ = some (.bool false) := by rw [← f1]; exact (World.ownsRow.cellAt hU (L[j]'hjL).1 (by omega)).trans (usedV_at _ f4)
          have hv2 : wr.cell? ⟨w4.heap.size, (L[j]'hjL).2, none⟩ = some (.bool false) := by rw [← f2]; exact (World.ownsRow.cellAt hU (L[j]'hjL).2 (by omega)).trans (usedV_at _ f5)
          have hy1 : wr.frozen? ⟨w4.heap.size, (L[j]'hjL).1, none⟩ = false := World.ownsRow.frozenAt hU _
          have hy2 : wr.frozen? ⟨w4.heap.size, (L[j]'hjL).2, none⟩ = false := World.ownsRow.frozenAt hU _
          have HUS := Lib.hid (usedV_step L hjL f4 f5)
          have hlt := (World.ownsRow.lt hU w4.heap.size rfl).2
          have hne1 : w4.heap.size ≠ wr.heap.size := by omega
          have hne2 : wr.heap.size ≠ w4.heap.size := by omega
          have HU := Lib.hid hU
          clear hU hrowi hel hcat f1 f2
          generalize L[j]'hjL = p at *
          have d1 : decide (n ≤ p.1) = false := decide_eq_false (by omega)
          have d2 : decide (n ≤ p.2) = false := decide_eq_false (by omega)
          have d3 : ((p.1 : Int) == (p.2 : Int)) = false := by simp; omega
          have d4 : decide ((p.1 : Int) < 0) = false := decide_eq_false (by omega)
          have d5 : decide ((p.2 : Int) < 0) = false := decide_eq_false (by omega)
          go_wp2
          go_region_law (fail)
          all_goals go_wp2
          all_goals (
            go_roundw
            case rel =>
              refine ⟨j + 1, rfl, hgo, ?_, ?_⟩
              · have h5 := (World.ownsRow.stored (World.ownsRow.stored HU.out p.1 (.bool true)).1 p.2 (.bool true)).1
                rw [HUS.out] at h5
                exact World.ownsRow.drew (World.ownsRow.alloc h5 _)
              · exact below_drewN' (((hbi.setCell (p := ⟨w4.heap.size, p.1, none⟩) (Nat.le_refl _) _).setCell (p := ⟨w4.heap.size, p.2, none⟩) (Nat.le_refl _) _).alloc (by simp; omega) _) 1
            case measure => simp [intOf]; omega)
        · go_wp2
          refine ⟨⟨pre ++ [L], rest', _, _, Z - H, P + H, HRR.out.trans (by rw [HL.out]; simp), rfl, ?_, ?_, by omega, ?_, row_below HROW4.out hbi, hbl.trans (hbi.mono hbl.size)⟩, by simp [lenV]; omega⟩
          · rw [← HZ'.out]; have := HZZ.out; omega
          · rw [List.flatten_append, List.length_append, ← HP.out]; simp [HLH.out]
          · intro h0
            refine ⟨g, HA.out, ?_⟩
            rw [if_neg (by omega), Nat.add_mul]
    · obtain rfl : Z = 0 := by omega
      clear hZ hB hrow hR hP
      go_wp2_with (fail)
      refine (alive12_any _ (hw.below hbl)).mono ?_
      rintro e w9 ⟨rfl, hb9⟩
      have hend := hbl.trans (hb9.mono hbl.size)
      go_wp2
      go_ret
      exact ⟨rfl, hend⟩
end Go.Proofs.YthcckgehlfikcaaDoor
