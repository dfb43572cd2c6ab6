/-
  slices.Clone, Grow, Concat and Reverse of api.Point. (Written by rows.py.)
-/
import Derived.Test.YtkiecjacbfmblaaDoorPtB
import Derived.Lib.AppendZeros
import Derived.Shelf.RegionOpenPlain
namespace Go.Proofs.YtkiecjacbfmblaaDoor
open Go.RowKit
set_option maxRecDepth 100000
set_option linter.unusedVariables false
set_option linter.unusedSimpArgs false

/-- What a call that makes a row of its own gives. -/
def GivesPt (w : World) (l : List Pt) (e : Ending) (w' : World) : Prop := ∃ v, e = .returned v ∧ w'.ownsRow w.heap.size 31 2 v l.length (l.flatMap ptC) ∧ Below w.heap.size w w'
theorem clonePt_any (A : Option Addr) (c n : Nat) (l : List Pt) (S : Nat → Prop) (w : World) (ha : RowR w S 2 ptC A l) (hn : n = l.length) (hc : A = none → c = 0) (hl : n ≤ 1000000) :
    Calls Tryd.prog 24 #[.slice A n c] w (GivesPt w l) := by
  have hq : ∀ (w : World) (a : Option Addr) (n c n' c' : Nat), (binOp .eql 22 (.slice a n c) (.slice none n' c')).run Tryd.prog w = .ok (.bool a.isNone) w := fun w a n c n' c' => Lib.run_eql_slice_nil w _ 31 a n c n' c' Tryd.underlying22
  subst hn
  cases A with
  | none =>
    obtain rfl := ha.nilOf
    go_enter Tryd.func24, Tryd.ntmps24
    go_wp2
    go_ret
    exact ⟨_, rfl, World.ownsRow_nil _ _ _ _, Below.refl _ _⟩
  | some ad =>
    have hrow : (w.alloc (.cells #[] 31)).ownsRow w.heap.size 31 2 (.slice (some ⟨w.heap.size, 0, none⟩) 0 0) 0 [] := World.ownsRow_made w #[] 0 (Nat.le_refl _) (by decide) rfl
    have ha2 := ha.next ((Below.refl w.heap.size w).alloc (Nat.le_refl _) (.cells #[] 31))
    clear ha
    go_enter Tryd.func24, Tryd.ntmps24
    go_wp2_with (first
      | (at_builtin; refine wp_app_row elemPt rfl _ _ rfl w.heap.size _ 0 [] rfl hrow (some ad) c l.length l S rfl rfl ha2 (fun h => by cases h) (by omega) (by simp) ?_
         intro v' w1 hown1 hgrow1 _))
    go_ret
    rw [Nat.zero_add, List.nil_append] at hown1
    exact ⟨_, rfl, hown1, ((Below.refl _ _).alloc (Nat.le_refl _) _).grown hgrow1 (by simp) (fun k e => by injection e with e; exact Nat.le_of_eq e)⟩
set_option maxRecDepth 100000 in
theorem growPt_any (n : Nat) (hn : n ≤ 1000000) (w : World) :
    Calls Tryd.prog 41 #[.slice none 0 0, .int .i64 n] w fun e w' => ∃ v, e = .returned v ∧ w'.ownsRow w.heap.size 31 2 v 0 [] ∧ Below w.heap.size w w' := by
  obtain ⟨i0, hi, hz0, hz1, hz2⟩ := info_parts infoPt
  by_cases h0 : 0 < n
  · have hr := Lib.run_append_nil_zeros (P := Tryd.prog) w 22 3 22 31 i0 (.agg #[.int .i64 0, .int .i64 0]) .i64 .i64 Tryd.underlying22 Tryd.underlying3 hi hz0 n h0 (by omega) (by omega) (by rw [hz2]; omega)
    go_enter Tryd.func41, Tryd.ntmps41
    go_wp2_with (at_builtin; refine Lib.wpList_append_run _ rfl _ _ _ _ rfl _ _ rfl rfl _ _ hr ?_)
    go_ret
    have h1 := grownCap_ge w n 0 31
    have h2 := grownCap_le_maxLen w n 0 31 (by unfold maxLen; omega)
    refine ⟨_, rfl, (World.ownsRow_made w _ _ (Nat.le_refl _) h2 ?_).drew, ((Below.refl _ _).alloc (Nat.le_refl _) _).drew⟩
    rw [Array.size_append, size_zeroCells, size_zeroCells]
    simp
    omega
  · obtain rfl : n = 0 := by omega
    go_enter Tryd.func41, Tryd.ntmps41
    go_wp2
    go_ret
    exact ⟨_, rfl, World.ownsRow_nil _ _ _ _, Below.refl _ _⟩
/-- A slice of slices, in memory. -/
structure PtLs (w : World) (b o : Nat) (Ls : List (Option Addr × Nat × List Pt)) : Prop where
  cell : ∀ j p, Ls[j]? = some p → w.cell? ⟨b, o + j, none⟩ = some (.slice p.1 p.2.2.length p.2.1)
  rows : ∀ p ∈ Ls, RowR w (fun _ => True) 2 ptC p.1 p.2.2 ∧ (p.1 = none → p.2.1 = 0)
theorem PtLs.next {w w' : World} {b o : Nat} {Ls : List (Option Addr × Nat × List Pt)} (h : PtLs w b o Ls) (hb : Below w.heap.size w w') : PtLs w' b o Ls :=
  ⟨fun j p hp => (hb.cell (p := ⟨b, o + j, none⟩) (lt_of_cell (h.cell j p hp))).trans (h.cell j p hp), fun p hp => ⟨(h.rows p hp).1.next hb, (h.rows p hp).2⟩⟩
def totPt (Ls : List (Option Addr × Nat × List Pt)) : List Pt := Ls.flatMap fun p => p.2.2
theorem totPt_snoc (Ls : List (Option Addr × Nat × List Pt)) (k : Nat) (h : k < Ls.length) : totPt (Ls.take (k + 1)) = totPt (Ls.take k) ++ Ls[k].2.2 := by
  unfold totPt; rw [List.take_succ_eq_append_getElem h, List.flatMap_append]; simp
theorem totPt_le (Ls : List (Option Addr × Nat × List Pt)) (k : Nat) : (totPt (Ls.take k)).length ≤ (totPt Ls).length := by
  have : totPt Ls = totPt (Ls.take k) ++ totPt (Ls.drop k) := by unfold totPt; rw [← List.flatMap_append, List.take_append_drop]
  rw [this, List.length_append]; omega
set_option maxHeartbeats 2000000 in
theorem concatPt_any (b o c : Nat) (Ls : List (Option Addr × Nat × List Pt)) (w : World) (h : PtLs w b o Ls) (h0 : 0 < Ls.length) (hl : Ls.length ≤ 1000) (ht : (totPt Ls).length ≤ 1000000) :
    Calls Tryd.prog 23 #[.slice (some ⟨b, o, none⟩) Ls.length c] w (GivesPt w (totPt Ls)) := by
  go_enter Tryd.func23, Tryd.ntmps23
  go_wp2
  go_loop [3, 11] (fun m i => ∃ k : Nat, i = .int .i64 k ∧ k ≤ Ls.length ∧ m = .int .i64 ((totPt (Ls.take k)).length : Nat)) (fun _ i => Ls.length - (intOf i).toNat)
  case atStart => exact ⟨0, rfl, Nat.zero_le _, rfl⟩
  case round =>
    obtain ⟨k, rfl, hk, rfl⟩ := hrel
    by_cases hgo : k < Ls.length
    · have hc := h.cell k _ (List.getElem?_eq_getElem hgo)
      have HS := Lib.hid (totPt_snoc Ls k hgo)
      have hle := totPt_le Ls (k + 1)
      rw [HS.out, List.length_append] at hle
      generalize Ls[k]'hgo = p at hc HS hle
      obtain ⟨A, cp, l⟩ := p
      simp only at hc HS hle
      obtain ⟨n0, hn0⟩ : ∃ n0 : Nat, n0 = (totPt (Ls.take k)).length := ⟨_, rfl⟩
      obtain ⟨n1, hn1⟩ : ∃ n1 : Nat, n1 = l.length := ⟨_, rfl⟩
      have HN := Lib.hid (show (totPt (Ls.take (k + 1))).length = n0 + n1 by rw [HS.out, List.length_append, hn0, hn1])
      rw [← hn0, ← hn1] at hle
      rw [← hn1] at hc
      rw [← hn0]
      clear hn0 hn1 HS
      go_wp2
      go_round
      case rel => exact ⟨k + 1, by go_num, hgo, by rw [HN.out]; push_cast; rfl⟩
      case measure => simp [intOf]; omega
    · have HE := Lib.hid (show totPt (Ls.take k) = totPt Ls by rw [List.take_of_length_le (by omega)])
      rw [HE.out]
      go_wp2_with (fail)
      refine (growPt_any _ ht w).mono ?_
      rintro e w1 ⟨v, rfl, hrow, hb1⟩
      go_wp2
      go_loopw [6, 27] (fun v i wr => ∃ k : Nat, i = .int .i64 k ∧ k ≤ Ls.length ∧ wr.ownsRow w.heap.size 31 2 v (totPt (Ls.take k)).length ((totPt (Ls.take k)).flatMap ptC) ∧ Below w.heap.size w wr) (fun _ i _ => Ls.length - (intOf i).toNat)
      case atStart => exact ⟨0, rfl, Nat.zero_le _, hrow, hb1⟩
      case round =>
        clear hrow hb1
        obtain ⟨k, rfl, hk, hrow, hb⟩ := hrel
        by_cases hgo : k < Ls.length
        · have h2 := h.next hb
          have hc := h2.cell k _ (List.getElem?_eq_getElem hgo)
          obtain ⟨hev, hnil⟩ := h2.rows _ (List.getElem_mem hgo)
          have HS := Lib.hid (totPt_snoc Ls k hgo)
          have hle := totPt_le Ls (k + 1)
          rw [HS.out, List.length_append] at hle
          generalize Ls[k]'hgo = p at hc HS hle hev hnil
          obtain ⟨A, cp, l⟩ := p
          simp only at hc HS hle hev hnil
          have hbs := hb.size
          obtain ⟨L0, hL0⟩ : ∃ L0, L0 = totPt (Ls.take k) := ⟨_, rfl⟩
          rw [← hL0] at HS hrow hle
          clear hL0
          go_wp2_with (first
            | (at_builtin; refine wp_app_row elemPt rfl _ _ rfl w.heap.size _ L0.length (L0.flatMap ptC) rfl hrow A cp l.length l (fun _ => True) rfl rfl hev hnil (by omega) hbs ?_
               intro v' w2 hown2 hgrow2 _))
          go_roundw
          case rel =>
            refine ⟨k + 1, by go_num, hgo, ?_, hb.grown hgrow2 hbs (fun g hg => (World.ownsRow.lt hrow g hg).1)⟩
            rw [HS.out, List.length_append, List.flatMap_append]; exact hown2
          case measure => simp [intOf]; omega
        · have HE2 := Lib.hid (show totPt (Ls.take k) = totPt Ls by rw [List.take_of_length_le (by omega)])
          rw [HE2.out] at hrow
          go_wp2
          go_ret
          exact ⟨_, rfl, hrow, hb⟩
def RevRelPt (W : World) (B g n cap : Nat) (ds : List Pt) (i j : Value) (wr : World) : Prop :=
  ∃ (k : Nat) (os : List Pt), i = .int .i64 k ∧ j = .int .i64 ((n : Int) - 1 - k) ∧ 2 * k ≤ n ∧ wr.ownsRow B 31 2 (.slice (some ⟨g, 0, none⟩) n cap) n (os.flatMap ptC) ∧ os.length = n ∧
    (∀ t, t < n → os[t]? = if t < k ∨ n - 1 - k < t then ds[n - 1 - t]? else ds[t]?) ∧ Below B W wr
set_option maxHeartbeats 4000000 in
theorem reversePt_any (B g n cap : Nat) (ds : List Pt) (w : World) (_hB : B ≤ w.heap.size) (hg : B ≤ g) (hown : w.ownsRow B 31 2 (.slice (some ⟨g, 0, none⟩) n cap) n (ds.flatMap ptC)) (hl : ds.length = n) (hn : n ≤ 1000000) (h1 : 1 ≤ n) :
    Calls Tryd.prog 25 #[.slice (some ⟨g, 0, none⟩) n cap] w fun e w' => e = .returned (.tuple #[]) ∧ w'.ownsRow B 31 2 (.slice (some ⟨g, 0, none⟩) n cap) n (ds.reverse.flatMap ptC) ∧ Below B w w' := by
  have HO0 := Lib.hid hown
  have HL0 := Lib.hid hl
  clear hown hl
  go_enter Tryd.func25, Tryd.ntmps25
  go_wp2
  go_loopw [2, 3] (fun i j wr => RevRelPt w B g n cap ds i j wr) (fun i _ _ => n - (intOf i).toNat)
  case atStart => exact ⟨0, ds, rfl, by simp, by omega, HO0.out, HL0.out, fun t ht => by rw [if_neg (by omega)], Below.refl _ _⟩
  case round =>
    obtain ⟨k, os, rfl, rfl, hk, hown, hlo, hrel, hbl⟩ := hrel
    have HO := Lib.hid hown
    have HL := Lib.hid hlo
    have HR := Lib.hid hrel
    clear hown hlo hrel
    by_cases hgo : k + 1 < n - k
    · obtain ⟨m, hm⟩ : ∃ m, n = m + k + 1 := ⟨n - k - 1, by omega⟩
      have hkm : k < m := by omega
      have ej : (n : Int) - 1 - k = (m : Int) := by omega
      rw [ej]
      have hmn : m < n := by omega
      have hkn : k < n := by omega
      have hkos : k < os.length := by rw [HL.out]; exact hkn
      have hmos : m < os.length := by rw [HL.out]; exact hmn
      obtain ⟨ci, ci2, fi, fi2⟩ := own_pt2 HL.out HO.out hkos
      obtain ⟨cj, cj2, fj, fj2⟩ := own_pt2 HL.out HO.out hmos
      obtain ⟨X, hX⟩ : ∃ X, X = os[k]'hkos := ⟨_, rfl⟩
      obtain ⟨Y, hY⟩ : ∃ Y, Y = os[m]'hmos := ⟨_, rfl⟩
      rw [← hX] at ci ci2
      rw [← hY] at cj cj2
      have HX := Lib.hid hX
      have HY := Lib.hid hY
      have HM := Lib.hid hm
      have mixed : Tryd.prog.follows Departure.mixedOrders = true := by kernel_rfl
      clear ej hm hgo hX hY
      go_wp2_with (fail)
      go_region_o
      go_wp2
      go_roundw
      case rel =>
        have o1 := own_setP (by exact HO.out) k Y
        have o2 := own_setP o1 m X
        have hm := HM.out
        refine ⟨k + 1, (os.set k Y).set m X, by go_num, by rw [Int.natCast_add]; congr 1; omega, by omega, o2, by simp [HL.out], fun t ht => ?_, below_drewN' ((((hbl.setCell (p := ⟨g, k * 2, none⟩) hg _).setCell (p := ⟨g, k * 2 + 1, none⟩) hg _).setCell (p := ⟨g, m * 2, none⟩) hg _).setCell (p := ⟨g, m * 2 + 1, none⟩) hg _) 1⟩
        have r1 := HR.out t ht
        have r2 := HR.out k hkn
        have r3 := HR.out m hmn
        rw [List.getElem?_set, List.getElem?_set]
        rw [if_neg (by omega)] at r2 r3
        rw [List.getElem?_eq_getElem hkos, ← HX.out] at r2
        rw [List.getElem?_eq_getElem hmos, ← HY.out] at r3
        by_cases e1 : m = t
        · subst e1
          rw [if_pos rfl, if_pos (by simp; omega), r2, if_pos (by omega)]
          congr 1; omega
        · rw [if_neg e1]
          by_cases e2 : k = t
          · subst e2
            rw [if_pos rfl, if_pos hkos, r3, if_pos (by omega)]
            congr 1; omega
          · rw [if_neg e2, r1]
            by_cases e3 : t < k ∨ n - 1 - k < t
            · rw [if_pos e3, if_pos (by omega)]
            · rw [if_neg e3, if_neg (by omega)]
      case measure => simp [intOf]; omega
    · have hge : ¬ (k : Int) < (n : Int) - 1 - k := by omega
      have HF := Lib.hid (show os = ds.reverse by
        apply List.ext_getElem?
        intro t
        by_cases ht : t < n
        · rw [HR.out t ht, List.getElem?_reverse (by rw [HL0.out]; exact ht), HL0.out]
          by_cases e3 : t < k ∨ n - 1 - k < t
          · rw [if_pos e3]
          · rw [if_neg e3]
            congr 1; omega
        · rw [List.getElem?_eq_none (by rw [HL.out]; omega), List.getElem?_eq_none (by rw [List.length_reverse, HL0.out]; omega)])
      have hO := HO.out
      rw [HF.out] at hO
      go_wp2
      go_end0
      exact ⟨rfl, hO, hbl⟩
end Go.Proofs.YtkiecjacbfmblaaDoor
