/-
  The contracts of package header over the landed code: regionsOf. (Written by hdr17.py.)
-/
import Derived.Test.YtokabljeekokmaaDoorHdrA
import Derived.Test.YtokabljeekokmaaDoorRef17c
import Derived.Test.YtokabljeekokmaaDoorHdrD
import Derived.Test.YtokabljeekokmaaDoorCopy
import Derived.Test.YtokabljeekokmaaDoorScopeFwd
namespace Go.Proofs.YtokabljeekokmaaDoor
open Go.RowKit Go.Maps
set_option maxRecDepth 100000
set_option linter.unusedVariables false
set_option linter.unusedSimpArgs false

theorem flat_setG (x : Rg) : ∀ (l : List Rg) (k : Nat), (l.set k x).flatMap rgC = (((l.flatMap rgC).set (k * 3) (.bool x.d)).set (k * 3 + 1) (.int .i64 x.v)).set (k * 3 + 2) (.slice x.A x.l.length x.c)
  | [], k => by simp
  | y :: l, 0 => by simp [rgC]
  | y :: l, k + 1 => by
    rw [List.set_cons_succ, List.flatMap_cons, flat_setG x l k, List.flatMap_cons, show (k + 1) * 3 = k * 3 + 3 by omega]
    simp [rgC]
theorem own_setG {w : World} {base g c n : Nat} {l : List Rg} (h : w.ownsRow base 52 3 (.slice (some ⟨g, 0, none⟩) n c) n (l.flatMap rgC)) (k : Nat) (x : Rg) :
    (((w.setCell ⟨g, k * 3, none⟩ (.bool x.d)).setCell ⟨g, k * 3 + 1, none⟩ (.int .i64 x.v)).setCell ⟨g, k * 3 + 2, none⟩ (.slice x.A x.l.length x.c)).ownsRow base 52 3 (.slice (some ⟨g, 0, none⟩) n c) n ((l.set k x).flatMap rgC) := by
  rw [flat_setG]
  exact (World.ownsRow.stored (World.ownsRow.stored (World.ownsRow.stored h _ _).1 _ _).1 _ _).1
theorem own_rg3 {w : World} {base g c n : Nat} {l : List Rg} (hn : l.length = n) (h : w.ownsRow base 52 3 (.slice (some ⟨g, 0, none⟩) n c) n (l.flatMap rgC)) {k : Nat} (hk : k < l.length) :
    w.cell? ⟨g, k * 3, none⟩ = some (.bool (l[k]'hk).d) ∧ w.cell? ⟨g, k * 3 + 1, none⟩ = some (.int .i64 (l[k]'hk).v) ∧ w.cell? ⟨g, k * 3 + 2, none⟩ = some (.slice (l[k]'hk).A (l[k]'hk).l.length (l[k]'hk).c) := by
  have h1 := flatC_at (C := rgC) (k := 3) (fun _ => rfl) l k _ (List.getElem?_eq_getElem hk)
  exact ⟨(World.ownsRow.cellAt h (k * 3) (by omega)).trans (h1 0 (by decide)), (World.ownsRow.cellAt h (k * 3 + 1) (by omega)).trans (h1 1 (by decide)), (World.ownsRow.cellAt h (k * 3 + 2) (by omega)).trans (h1 2 (by decide))⟩
theorem made_rg (N : Nat) : (madeCells #[Value.bool false, .int .i64 0, .slice none 0 0] (N * 3)).toList = (List.replicate N (rg0 (false, 0))).flatMap rgC := by
  apply List.ext_getElem?
  intro j
  have hl : ((List.replicate N (rg0 (false, 0))).flatMap rgC).length = N * 3 := by rw [flatC_len (C := rgC) (k := 3) (fun _ => rfl), List.length_replicate]
  by_cases hj : j < N * 3
  · have hr := flatC_at (C := rgC) (k := 3) (fun _ => rfl) (List.replicate N (rg0 (false, 0))) (j / 3) (rg0 (false, 0)) (by rw [List.getElem?_replicate, if_pos (by omega)]) (j % 3) (Nat.mod_lt _ (by decide))
    rw [show j / 3 * 3 + j % 3 = j by omega] at hr
    rw [hr]
    have h2 : j % 3 = 0 ∨ j % 3 = 1 ∨ j % 3 = 2 := by omega
    rcases h2 with h2 | h2 | h2 <;> simp [madeCells, hj, h2, rgC, rg0]
  · rw [List.getElem?_eq_none (by simp [madeCells]; omega), List.getElem?_eq_none (by omega)]
theorem SlR.sub_ {w : World} {S : Nat → Prop} {k : IntKind} {b o : Nat} {ds : List Int} (h : SlR w S k (some ⟨b, o, none⟩) ds) (i m : Nat) (hm : i + m ≤ ds.length) : SlR w S k (some ⟨b, o + i, none⟩) ((ds.drop i).take m) := by
  intro hl
  rw [List.length_take] at hl
  obtain ⟨b', o', e, hS, hc⟩ := h (by omega)
  injection e with e
  injection e with e1 e2
  subst e1 e2
  refine ⟨b, o + i, rfl, hS, fun j d hd => ?_⟩
  rw [Nat.add_assoc]
  refine hc (i + j) d ?_
  rw [← hd, List.getElem?_take]
  split
  · rw [List.getElem?_drop]
  · rename_i hj
    rw [List.getElem?_take, if_neg hj] at hd
    cases hd
/-- What regionsOf has made after k rounds. -/
def mixG (bs : List Int) (k : Nat) : List Rg := ((bs.take k).map fun x => rg0 (rgOf x)) ++ List.replicate (bs.length - k) (rg0 (false, 0))
theorem mixG_len {bs : List Int} {k : Nat} (h : k ≤ bs.length) : (mixG bs k).length = bs.length := by unfold mixG; simp; omega
theorem mixG_step {bs : List Int} {k : Nat} (h : k < bs.length) : (mixG bs k).set k (rg0 (rgOf (dgt bs k))) = mixG bs (k + 1) := by
  unfold mixG
  have hl : ((bs.take k).map fun x => rg0 (rgOf x)).length = k := by simp; omega
  rw [List.set_append_right _ _ (by omega), hl, Nat.sub_self, show bs.length - k = bs.length - (k + 1) + 1 by omega, List.replicate_succ, List.set_cons_zero, List.take_succ_eq_append_getElem h, List.map_append, dgt_lt h]
  simp
theorem mixG_all (bs : List Int) : mixG bs bs.length = (bs.map rgOf).map rg0 := by unfold mixG; simp
def RgRelH (w : World) (g n : Nat) (bs : List Int) (i : Value) (wr : World) : Prop :=
  ∃ k : Nat, i = .int .i64 k ∧ k ≤ n ∧ wr.ownsRow w.heap.size 52 3 (.slice (some ⟨g, 0, none⟩) n n) n ((mixG bs k).flatMap rgC) ∧ Below w.heap.size w wr
set_option maxHeartbeats 1000000 in
theorem regionsOf_h (A : Option Addr) (n c : Nat) (bs : List Int) (T : Nat → Prop) (w : World) (hb : SlR w T .u8 A bs) (hn : n = bs.length) (hU : UB bs) (hl : n ≤ 64) :
    Calls Tryd.prog 30 #[.slice A n c] w fun e w' => ∃ g, e = .returned (.slice (some ⟨g, 0, none⟩) n n) ∧ w'.ownsRow w.heap.size 52 3 (.slice (some ⟨g, 0, none⟩) n n) n (((bs.map rgOf).map rg0).flatMap rgC) ∧ Below w.heap.size w w' := by
  obtain ⟨i0, hi, hz0, hz1, hz2⟩ := info_parts infoRg
  have HN := Lib.hid hn
  have HM0 := Lib.hid (show (List.replicate n (rg0 (false, 0))).flatMap rgC = (mixG bs 0).flatMap rgC by unfold mixG; rw [hn]; simp)
  clear hn
  go_enter Tryd.func30, Tryd.ntmps30
  go_wp2_with (first
    | (at_make; refine wpList_make_full _ rfl _ _ 23 rfl w.heap.size 52 i0 _ 3 Tryd.underlying23 hi hz0 hz1 .i64 .i64 n n n rfl rfl rfl rfl (by rw [hz2]; omega) (by unfold maxLen; omega) (Nat.le_refl _) ?_
       intro w1 hrow1 hgr1
       have hb1 : Below w.heap.size w w1 := (Below.refl _ _).grown hgr1 (Nat.le_refl _) (fun k e => by cases e)
       rw [show (madeCells (Value.agg #[.bool false, .int .i64 0, .slice none 0 0]).cells (n * 3)).toList = (List.replicate n (rg0 (false, 0))).flatMap rgC from made_rg n, HM0.out] at hrow1))
  go_loopw [11] (fun i wr => RgRelH w w.heap.size n bs i wr) (fun i _ => n - (intOf i).toNat)
  case atStart => exact ⟨0, rfl, Nat.zero_le _, hrow1, hb1⟩
  case round =>
    clear hrow1 hgr1 hb1
    obtain ⟨k, rfl, hk, hrow, hbr⟩ := hrel
    by_cases hgo : k < n
    · have hkb : k < bs.length := by rw [← HN.out]; exact hgo
      obtain ⟨b, o, rfl, cx⟩ := sl_at (hb.next hbr) hkb
      obtain ⟨hy0, hy1⟩ := hU.at_ k
      have HS1 := Lib.hid (mixG_step hkb)
      obtain ⟨c0, c1, c2⟩ := own_rg3 ((mixG_len (Nat.le_of_lt hkb)).trans HN.out.symm) hrow (k := k) (by rw [mixG_len (Nat.le_of_lt hkb)]; exact hkb)
      generalize (mixG bs k)[k]'(by rw [mixG_len (Nat.le_of_lt hkb)]; exact hkb) = z0 at c0 c1 c2
      have f0 : wr.frozen? ⟨w.heap.size, k * 3, none⟩ = false := World.ownsRow.frozenAt hrow _
      have f1 : wr.frozen? ⟨w.heap.size, k * 3 + 1, none⟩ = false := World.ownsRow.frozenAt hrow _
      have f2 : wr.frozen? ⟨w.heap.size, k * 3 + 2, none⟩ = false := World.ownsRow.frozenAt hrow _
      generalize dgt bs k = y at *
      have hrow2 := own_setG hrow k (rg0 (rgOf y))
      rw [HS1.out] at hrow2
      have hb2 := ((hbr.setCell (p := ⟨w.heap.size, k * 3, none⟩) (Nat.le_refl _) (.bool (rg0 (rgOf y)).d)).setCell (p := ⟨w.heap.size, k * 3 + 1, none⟩) (Nat.le_refl _) (.int .i64 (rg0 (rgOf y)).v)).setCell (p := ⟨w.heap.size, k * 3 + 2, none⟩) (Nat.le_refl _) (.slice none 0 0)
      have hy2 : 0 ≤ y % 128 ∧ y % 128 < 128 := by omega
      clear hkb
      by_cases hd : 128 ≤ y
      · have hd1 : decide (128 ≤ y) = true := by simpa using hd
        rw [show (rg0 (rgOf y)).d = true from hd1] at hrow2 hb2
        rw [show (rg0 (rgOf y)).v = y % 128 from rfl] at hrow2 hb2
        go_wp2
        go_roundw
        case rel => exact ⟨k + 1, by go_num, hgo, hrow2, hb2⟩
        case measure => simp [intOf]; omega
      · have hd1 : decide (128 ≤ y) = false := by simpa using hd
        rw [show (rg0 (rgOf y)).d = false from hd1] at hrow2 hb2
        rw [show (rg0 (rgOf y)).v = y % 128 from rfl] at hrow2 hb2
        go_wp2
        go_roundw
        case rel => exact ⟨k + 1, by go_num, hgo, hrow2, hb2⟩
        case measure => simp [intOf]; omega
    · have hke : k = n := by omega
      subst hke
      have HA2 := Lib.hid (show mixG bs k = (bs.map rgOf).map rg0 by rw [← mixG_all bs, HN.out])
      rw [HA2.out] at hrow
      go_wp2
      go_ret
      exact ⟨_, rfl, hrow, hbr⟩
end Go.Proofs.YtokabljeekokmaaDoor
