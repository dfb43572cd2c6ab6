/-
  Contracts of package sorting over the landed code: order, padded. (Written by sort13.py.)
-/
import Derived.Test.YthdghhfdbckilaaDoorSortA
import Derived.Test.YthdghhfdbckilaaDoorCopy
import Derived.Test.YthdghhfdbckilaaDoorDirL
import Derived.Test.YthdghhfdbckilaaDoorNetA
import Derived.Test.YthdghhfdbckilaaDoorNetR
import Derived.OwnWalk
namespace Go.Proofs.YthdghhfdbckilaaDoor
open Go.RowKit Go.Maps
set_option maxRecDepth 100000
set_option linter.unusedVariables false
set_option linter.unusedSimpArgs false

theorem cell_setCell_ne {w : World} {g i j : Nat} {v : Value} (h : i ≠ j) : (w.setCell ⟨g, i, none⟩ v).cell? ⟨g, j, none⟩ = w.cell? ⟨g, j, none⟩ := by
  exact World.cell?_setCell_other w _ _ _ (by simp [h])
theorem frozen_keep {w w' : World} {g j : Nat} (hb : Below w.heap.size w w') (hg : g < w.heap.size) (h : w.frozen? ⟨g, j, none⟩ = false) : w'.frozen? ⟨g, j, none⟩ = false := (World.frozen?_of_block (hb.block g hg)).trans h
/-- What order makes of a list. -/
def ordR (xs : List Rc) (lo hi : Nat) (X Y : Rc) : List Rc := (xs.set lo X).set hi Y
def selRc (r : Bool) (X Y : Rc) : Rc := if r then X else Y
theorem sel_live {X Y : Rc} (r : Bool) (hx : U X.live) (hy : U Y.live) : sel (mk r) X.live Y.live = (selRc r X Y).live := by rw [sel_mk hx hy]; unfold selRc; cases r <;> rfl
theorem sel_id {X Y : Rc} (r : Bool) (hx : U X.id) (hy : U Y.id) : sel (mk r) X.id Y.id = (selRc r X Y).id := by rw [sel_mk hx hy]; unfold selRc; cases r <;> rfl
theorem ord_flat (xs : List Rc) (lo hi : Nat) (X Y : Rc) (hne : lo ≠ hi) :
    ((((xs.flatMap rcC).set (lo * 2) (.int .u64 X.live)).set (hi * 2) (.int .u64 Y.live)).set (lo * 2 + 1) (.int .u64 X.id)).set (hi * 2 + 1) (.int .u64 Y.id) = (ordR xs lo hi X Y).flatMap rcC := by
  unfold ordR
  rw [flat_set, flat_set]
  rw [List.set_comm (Value.int .u64 Y.live) (Value.int .u64 X.id) (show hi * 2 ≠ lo * 2 + 1 by omega)]
set_option maxHeartbeats 4000000 in
theorem sortOrder_any (g N c base lo hi : Nat) (xs : List Rc) (X Y : Rc) (r : Bool) (w : World) (hw : ∀ W, Moved (fun b => b = g) w W → Wts W) (hrow : w.ownsRow base 24 2 (.slice (some ⟨g, 0, none⟩) N c) N (xs.flatMap rcC)) (hN : xs.length = N) (hlo : lo < xs.length) (hhi : hi < xs.length) (hne : lo ≠ hi)
    (hX : xs[lo] = X) (hY : xs[hi] = Y) (hUX : U X.live ∧ U X.id) (hUY : U Y.live ∧ U Y.id) (hr : lessR Y X = r) :
    Calls Tryd.prog 38 #[.pointer (some ⟨g, lo * 2, none⟩), .pointer (some ⟨g, hi * 2, none⟩)] w fun e w' => e = .returned (.tuple #[]) ∧ w'.ownsRow base 24 2 (.slice (some ⟨g, 0, none⟩) N c) N ((ordR xs lo hi (selRc r Y X) (selRc r X Y)).flatMap rcC) ∧ Moved (fun b => b = g) w w' := by
  obtain ⟨kx0, kx1, fx0, fx1⟩ := own_rec2 hN hrow hlo
  obtain ⟨ky0, ky1, fy0, fy1⟩ := own_rec2 hN hrow hhi
  rw [hX] at kx0 kx1
  rw [hY] at ky0 ky1
  have HF := Lib.hid (ord_flat xs lo hi (selRc r Y X) (selRc r X Y) hne)
  have HRW := Lib.hid hrow
  have HR := Lib.hid hr
  have HE1 := Lib.hid (sel_live r hUY.1 hUX.1)
  have HE2 := Lib.hid (sel_live r hUX.1 hUY.1)
  have HE3 := Lib.hid (sel_id r hUY.2 hUX.2)
  have HE4 := Lib.hid (sel_id r hUX.2 hUY.2)
  have HSW1 := Lib.hid (fun w => swap_any (mk r) X.live Y.live w)
  have HSW2 := Lib.hid (fun w => swap_any (mk r) X.id Y.id w)
  rw [HE1.out, HE2.out] at HSW1
  rw [HE3.out, HE4.out] at HSW2
  have HNE := Lib.hid hne
  have hgl := (World.ownsRow.lt hrow g rfl).2
  have hgb := (World.ownsRow.lt hrow g rfl).1
  have hwt := hw w (Moved.refl _ _)
  clear hX hY hN hlo hhi hr hne hrow HE1 HE2 HE3 HE4
  generalize selRc r Y X = Z at *
  generalize selRc r X Y = V at *
  go_enter Tryd.func38, Tryd.ntmps38
  go_upto_region 0 with (fail)
  refine dir_plain (by kernel_rfl) 8 [[], [(5, 0)], [(6, 1)], [], [(8, 3)], [(9, 4)], [(7, 2), (10, 5)], [(11, 6)]] [(5, 0), (6, 1), (7, 2), (8, 3), (9, 4), (10, 5), (11, 6), (4, 7)] [
      (fun v _ => v = .pointer (some ⟨g, hi * 2, none⟩)),
      (fun v _ => v = .pointer (some ⟨g, hi * 2, none⟩)),
      (fun v _ => v = .agg #[.int .u64 Y.live, .int .u64 Y.id]),
      (fun v _ => v = .pointer (some ⟨g, lo * 2, none⟩)),
      (fun v _ => v = .pointer (some ⟨g, lo * 2, none⟩)),
      (fun v _ => v = .agg #[.int .u64 X.live, .int .u64 X.id]),
      (fun v _ => v = .int .u64 (mk r)),
      (fun v _ => v = .int .u64 (mk r))
    ] (by kernel_rfl) (by kernel_rfl) (by kernel_rfl) (by decide) ⟨dstab_eq, dstab_eq, dstab_eq, dstab_eq, dstab_eq, dstab_eq, dstab_eq, dstab_eq, trivial⟩ ?steps ?fin
  case steps =>
    refine ⟨?_, ?_, ?_, ?_, ?_, ?_, ?_, ?_, trivial⟩
    · intro vs g w2 hI hF hR K hK
      simp only [Facts, fill, Act.put, z1, z2, z3, z4, z5, Nat.reduceAdd] at hF hR hK ⊢
      go_simp
      exact hK _ () _ hI (Below.refl _ _) rfl
    · intro vs g w2 hI hF hR K hK
      simp only [Facts, fill, Act.put, z1, z2, z3, z4, z5, Nat.reduceAdd] at hF hR hK ⊢
      obtain ⟨r0, -⟩ := hR
      generalize vs 0 = x0 at *
      subst r0
      go_simp
      exact hK _ () _ hI (Below.refl _ _) rfl
    · intro vs g w2 hI hF hR K hK
      simp only [Facts, fill, Act.put, z1, z2, z3, z4, z5, Nat.reduceAdd] at hF hR hK ⊢
      obtain ⟨r1, -⟩ := hR
      generalize vs 1 = x1 at *
      subst r1
      have k0 := (hI.cell (lt_of_cell ky0)).trans ky0
      have k1 := (hI.cell (lt_of_cell ky1)).trans ky1
      go_simp
      exact hK _ () _ hI (Below.refl _ _) rfl
    · intro vs g w2 hI hF hR K hK
      simp only [Facts, fill, Act.put, z1, z2, z3, z4, z5, Nat.reduceAdd] at hF hR hK ⊢
      go_simp
      exact hK _ () _ hI (Below.refl _ _) rfl
    · intro vs g w2 hI hF hR K hK
      simp only [Facts, fill, Act.put, z1, z2, z3, z4, z5, Nat.reduceAdd] at hF hR hK ⊢
      obtain ⟨r3, -⟩ := hR
      generalize vs 3 = x3 at *
      subst r3
      go_simp
      exact hK _ () _ hI (Below.refl _ _) rfl
    · intro vs g w2 hI hF hR K hK
      simp only [Facts, fill, Act.put, z1, z2, z3, z4, z5, Nat.reduceAdd] at hF hR hK ⊢
      obtain ⟨r4, -⟩ := hR
      generalize vs 4 = x4 at *
      subst r4
      have k0 := (hI.cell (lt_of_cell kx0)).trans kx0
      have k1 := (hI.cell (lt_of_cell kx1)).trans kx1
      go_simp
      exact hK _ () _ hI (Below.refl _ _) rfl
    · intro vs g w2 hI hF hR K hK
      simp only [Facts, fill, Act.put, z1, z2, z3, z4, z5, Nat.reduceAdd] at hF hR hK ⊢
      obtain ⟨r2, r5, -⟩ := hR
      generalize vs 2 = x2, vs 5 = x5 at *
      subst r2 r5
      go_simp
      refine (sortLess_c Y X r _ (hwt.below hI) hUY hUX HR.out).mono ?_
      rintro e w3 ⟨rfl, hb⟩
      exact hK _ () _ (hI.trans (hb.mono hI.size)) hb rfl
    · intro vs g w2 hI hF hR K hK
      simp only [Facts, fill, Act.put, z1, z2, z3, z4, z5, Nat.reduceAdd] at hF hR hK ⊢
      obtain ⟨r6, -⟩ := hR
      generalize vs 6 = x6 at *
      subst r6
      go_simp
      exact hK _ () _ hI (Below.refl _ _) rfl
  case fin =>
    intro vs w2 hI hR
    have r7 := hR 7 (by decide)
    simp only [fill, Act.put, z1, z2, z3, z4, z5] at r7 ⊢
    clear hR
    generalize vs 7 = x7 at *
    subst r7
    refine NoPanic.normal ?_
    have hm2 := Moved.of_below (T := fun b => b = g) hI
    have HRW2 := Lib.hid (row_keep (w' := w2) HRW.out fun g' hg' => hI.block g' (World.ownsRow.lt HRW.out g' hg').2)
    have gx0 := (hI.cell (lt_of_cell kx0)).trans kx0
    have gx1 := (hI.cell (lt_of_cell kx1)).trans kx1
    have gy0 := (hI.cell (lt_of_cell ky0)).trans ky0
    have gy1 := (hI.cell (lt_of_cell ky1)).trans ky1
    have hg2 := Nat.lt_of_lt_of_le hgl hI.size
    clear kx0 kx1 ky0 ky1 fx0 fx1 fy0 fy1 hI hgl
    go_wp2_with (fail)
    have hgW := hg2
    have fz : w2.frozen? ⟨g, lo * 2, none⟩ = false := World.ownsRow.frozenAt HRW2.out _
    refine dirL_plain (by kernel_rfl) 6 10 17 ⟨g, lo * 2, none⟩ (.int .u64 Z.live) 18 [[], [], [], [], [(16, 3)], [(17, 4)], [(18, 5)], [], [(20, 7)], [(21, 8)], [(22, 9)], [(15, 2), (19, 6), (23, 10)], [(19, 6), (23, 10), (24, 11)], [(19, 6), (23, 10), (12, 12)], [(19, 6), (23, 10), (12, 12)], [(13, 0)], [(27, 15)], [(19, 6), (23, 10), (25, 13), (28, 16)], [(14, 1)], [(29, 18)], [(26, 14), (30, 19)]] [(13, 0), (14, 1), (15, 2), (16, 3), (17, 4), (18, 5), (19, 6), (20, 7), (21, 8), (22, 9), (23, 10), (24, 11), (12, 12), (25, 13), (26, 14), (27, 15), (28, 16)] [
        (fun v => v = .pointer (some ⟨g, lo * 2, none⟩)),
        (fun v => v = .pointer (some ⟨g, hi * 2, none⟩)),
        (fun v => v = .int .u64 (mk r)),
        (fun v => v = .pointer (some ⟨g, lo * 2, none⟩)),
        (fun v => v = .pointer (some ⟨g, lo * 2, none⟩)),
        (fun v => v = .pointer (some ⟨g, lo * 2, none⟩)),
        (fun v => v = .int .u64 X.live),
        (fun v => v = .pointer (some ⟨g, hi * 2, none⟩)),
        (fun v => v = .pointer (some ⟨g, hi * 2, none⟩)),
        (fun v => v = .pointer (some ⟨g, hi * 2, none⟩)),
        (fun v => v = .int .u64 Y.live),
        (fun v => v = .tuple #[.int .u64 Z.live, .int .u64 V.live]),
        (fun v => v = .tuple #[.int .u64 Z.live, .int .u64 V.live]),
        (fun v => v = .int .u64 Z.live),
        (fun v => v = .int .u64 V.live),
        (fun v => v = .pointer (some ⟨g, lo * 2, none⟩)),
        (fun v => v = .pointer (some ⟨g, lo * 2, none⟩)),
        (fun v => True)
      ] (by kernel_rfl) (by kernel_rfl) (by kernel_rfl) (by decide) ?stepsA (by decide) ?finA
    case stepsA =>
      refine ⟨?_, ?_, ?_, ?_, ?_, ?_, ?_, ?_, ?_, ?_, ?_, ?_, ?_, ?_, ?_, ?_, ?_, ?_, trivial⟩
      · intro vs g1 w6 hI hF hR K hK
        simp only [Facts, fill, Act.put, z1, z2, z3, z4, z5, Nat.reduceAdd] at hF hR hK ⊢
        go_simp
        exact hK _ g1 _ hI (by simp [GdirL]) ⟨rfl, by simp, by simp, by simp⟩
      · intro vs g1 w6 hI hF hR K hK
        simp only [Facts, fill, Act.put, z1, z2, z3, z4, z5, Nat.reduceAdd] at hF hR hK ⊢
        go_simp
        exact hK _ g1 _ hI (by simp [GdirL]) ⟨rfl, by simp, by simp, by simp⟩
      · intro vs g1 w6 hI hF hR K hK
        simp only [Facts, fill, Act.put, z1, z2, z3, z4, z5, Nat.reduceAdd] at hF hR hK ⊢
        go_simp
        exact hK _ g1 _ hI (by simp [GdirL]) ⟨rfl, by simp, by simp, by simp⟩
      · intro vs g1 w6 hI hF hR K hK
        simp only [Facts, fill, Act.put, z1, z2, z3, z4, z5, Nat.reduceAdd] at hF hR hK ⊢
        go_simp
        exact hK _ g1 _ hI (by simp [GdirL]) ⟨rfl, by simp, by simp, by simp⟩
      · intro vs g1 w6 hI hF hR K hK
        simp only [Facts, fill, Act.put, z1, z2, z3, z4, z5, Nat.reduceAdd] at hF hR hK ⊢
        obtain ⟨h3, -⟩ := hR
        have r3 := h3.1
        generalize vs 3 = x3 at *
        subst r3
        go_simp
        exact hK _ g1 _ hI (by simp [GdirL]) ⟨rfl, by simp, by simp, by simp⟩
      · intro vs g1 w6 hI hF hR K hK
        simp only [Facts, fill, Act.put, z1, z2, z3, z4, z5, Nat.reduceAdd] at hF hR hK ⊢
        obtain ⟨h4, -⟩ := hR
        have r4 := h4.1
        generalize vs 4 = x4 at *
        subst r4
        go_simp
        exact hK _ g1 _ hI (by simp [GdirL]) ⟨rfl, by simp, by simp, by simp⟩
      · intro vs g1 w6 hI hF hR K hK
        simp only [Facts, fill, Act.put, z1, z2, z3, z4, z5, Nat.reduceAdd] at hF hR hK ⊢
        obtain ⟨h5, -⟩ := hR
        have r5 := h5.1
        generalize vs 5 = x5 at *
        subst r5
        have hs0 : g1.s = false := (by
          cases hb : g1.s with
          | false => rfl
          | true => have := hI.1 hb; have h2 := hF.1 trivial; simp [h2] at this)
        have hI2 := hI.2
        rw [hs0] at hI2
        have k0 := (hI2.cell (lt_of_cell gx0)).trans gx0
        go_simp
        exact hK _ {g1 with a := true} _ ⟨fun h => (by simp [hs0] at h), hI.2⟩ (by simp [GdirL]) ⟨rfl, by simp, by simp, by simp⟩
      · intro vs g1 w6 hI hF hR K hK
        simp only [Facts, fill, Act.put, z1, z2, z3, z4, z5, Nat.reduceAdd] at hF hR hK ⊢
        go_simp
        exact hK _ g1 _ hI (by simp [GdirL]) ⟨rfl, by simp, by simp, by simp⟩
      · intro vs g1 w6 hI hF hR K hK
        simp only [Facts, fill, Act.put, z1, z2, z3, z4, z5, Nat.reduceAdd] at hF hR hK ⊢
        obtain ⟨h7, -⟩ := hR
        have r7 := h7.1
        generalize vs 7 = x7 at *
        subst r7
        go_simp
        exact hK _ g1 _ hI (by simp [GdirL]) ⟨rfl, by simp, by simp, by simp⟩
      · intro vs g1 w6 hI hF hR K hK
        simp only [Facts, fill, Act.put, z1, z2, z3, z4, z5, Nat.reduceAdd] at hF hR hK ⊢
        obtain ⟨h8, -⟩ := hR
        have r8 := h8.1
        generalize vs 8 = x8 at *
        subst r8
        go_simp
        exact hK _ g1 _ hI (by simp [GdirL]) ⟨rfl, by simp, by simp, by simp⟩
      · intro vs g1 w6 hI hF hR K hK
        simp only [Facts, fill, Act.put, z1, z2, z3, z4, z5, Nat.reduceAdd] at hF hR hK ⊢
        obtain ⟨h9, -⟩ := hR
        have r9 := h9.1
        generalize vs 9 = x9 at *
        subst r9
        have hs0 : g1.s = false := (by
          cases hb : g1.s with
          | false => rfl
          | true => have := hI.1 hb; have h2 := hF.2.1 trivial; simp [h2] at this)
        have hI2 := hI.2
        rw [hs0] at hI2
        have k0 := (hI2.cell (lt_of_cell gy0)).trans gy0
        go_simp
        exact hK _ {g1 with b := true} _ ⟨fun h => (by simp [hs0] at h), hI.2⟩ (by simp [GdirL]) ⟨rfl, by simp, by simp, by simp⟩
      · intro vs g1 w6 hI hF hR K hK
        simp only [Facts, fill, Act.put, z1, z2, z3, z4, z5, Nat.reduceAdd] at hF hR hK ⊢
        obtain ⟨h2, h6, h10, -⟩ := hR
        have r2 := h2.1
        have r6 := h6.1
        have r10 := h10.1
        generalize vs 2 = x2, vs 6 = x6, vs 10 = x10 at *
        subst r2 r6 r10
        go_simp
        refine (HSW1.out _).mono ?_
        rintro e w6' ⟨rfl, rfl⟩
        exact hK _ g1 _ hI (by simp [GdirL]) ⟨rfl, by simp, by simp, by simp⟩
      · intro vs g1 w6 hI hF hR K hK
        simp only [Facts, fill, Act.put, z1, z2, z3, z4, z5, Nat.reduceAdd] at hF hR hK ⊢
        obtain ⟨h6, h10, h11, -⟩ := hR
        have r6 := h6.1
        have r10 := h10.1
        have r11 := h11.1
        generalize vs 6 = x6, vs 10 = x10, vs 11 = x11 at *
        subst r6 r10 r11
        go_simp
        exact hK _ g1 _ hI (by simp [GdirL]) ⟨rfl, by simp, by simp, by simp⟩
      · intro vs g1 w6 hI hF hR K hK
        simp only [Facts, fill, Act.put, z1, z2, z3, z4, z5, Nat.reduceAdd] at hF hR hK ⊢
        obtain ⟨h6, h10, h12, -⟩ := hR
        have r6 := h6.1
        have r10 := h10.1
        have r12 := h12.1
        generalize vs 6 = x6, vs 10 = x10, vs 12 = x12 at *
        subst r6 r10 r12
        go_simp
        exact hK _ g1 _ hI (by simp [GdirL]) ⟨rfl, by simp, by simp, by simp⟩
      · intro vs g1 w6 hI hF hR K hK
        simp only [Facts, fill, Act.put, z1, z2, z3, z4, z5, Nat.reduceAdd] at hF hR hK ⊢
        obtain ⟨h6, h10, h12, -⟩ := hR
        have r6 := h6.1
        have r10 := h10.1
        have r12 := h12.1
        generalize vs 6 = x6, vs 10 = x10, vs 12 = x12 at *
        subst r6 r10 r12
        go_simp
        exact hK _ g1 _ hI (by simp [GdirL]) ⟨rfl, by simp, by simp, by simp⟩
      · intro vs g1 w6 hI hF hR K hK
        simp only [Facts, fill, Act.put, z1, z2, z3, z4, z5, Nat.reduceAdd] at hF hR hK ⊢
        obtain ⟨h0, -⟩ := hR
        have r0 := h0.1
        generalize vs 0 = x0 at *
        subst r0
        go_simp
        exact hK _ g1 _ hI (by simp [GdirL]) ⟨rfl, by simp, by simp, by simp⟩
      · intro vs g1 w6 hI hF hR K hK
        simp only [Facts, fill, Act.put, z1, z2, z3, z4, z5, Nat.reduceAdd] at hF hR hK ⊢
        obtain ⟨h15, -⟩ := hR
        have r15 := h15.1
        generalize vs 15 = x15 at *
        subst r15
        go_simp
        exact hK _ g1 _ hI (by simp [GdirL]) ⟨rfl, by simp, by simp, by simp⟩
      · intro vs g1 w6 hI hF hR K hK
        simp only [Facts, fill, Act.put, z1, z2, z3, z4, z5, Nat.reduceAdd] at hF hR hK ⊢
        obtain ⟨h6, h10, h13, h16, -⟩ := hR
        have hA := h6
        have hB := h10
        have r6 := h6.1
        have r10 := h10.1
        have r13 := h13.1
        have r16 := h16.1
        generalize vs 6 = x6, vs 10 = x10, vs 13 = x13, vs 16 = x16 at *
        subst r6 r10 r13 r16
        have hg1 := hF.2.2 trivial
        have ha1 := hA.2.1 trivial
        have hb1 := hB.2.2.1 trivial
        have hI2 := hI.2
        rw [hg1] at hI2
        have k1 := (hI2.cell (lt_of_cell gx0)).trans gx0
        have k0 : w6.frozen? ⟨g, lo * 2, none⟩ = false := frozen_keep hI2 (lt_of_cell gx0) fz
        go_simp
        exact hK undef {g1 with s := true} _ ⟨fun _ => ⟨ha1, hb1⟩, below_put hI2 hgW (Nat.le_refl _)⟩ (by simp [GdirL]) ⟨trivial, by simp, by simp, by simp⟩
    case finA =>
      intro vs w6 hI hR
      have r1 := hR 1 (by decide)
      have r14 := hR 14 (by decide)
      have r2 := hR 2 (by decide)
      simp only [fill, Act.put, z1, z2, z3, z4, z5] at r1 r14 ⊢
      clear hR
      generalize vs 1 = x1 at *
      generalize vs 14 = x14 at *
      subst r1 r14
      have hrowA := (World.ownsRow.stored HRW2.out (lo * 2) (.int .u64 Z.live)).1
      have hrowB := row_keep (w' := w6) hrowA fun g' hg' => hI.block g' (by have := (World.ownsRow.lt HRW2.out g' hg').2; exact this)
      have hrowC := (World.ownsRow.stored hrowB (hi * 2) (.int .u64 V.live)).1
      have hmA : Moved (fun b => b = g) w2 w6 := (moved_setc (S := fun b => b = g) (o := lo * 2) (v := .int .u64 Z.live) rfl).trans (.of_below (hI.mono (by simp)))
      have hmC := hmA.trans (moved_setc (S := fun b => b = g) (W := w6) (o := hi * 2) (v := .int .u64 V.live) rfl)
      have hy6 : w6.cell? ⟨g, hi * 2, none⟩ = some (.int .u64 Y.live) := (hI.cell (by simp; exact lt_of_cell gy0)).trans ((cell_setCell_ne (by have := HNE.out; omega)).trans gy0)
      have fy6 : w6.frozen? ⟨g, hi * 2, none⟩ = false := World.ownsRow.frozenAt hrowB _
      refine wpOps_step rfl rfl ?_
      go_simp
      refine wpOps_step rfl rfl ?_
      go_simp
      refine wpOps_step rfl rfl ?_
      go_simp
      have cx1 : (w6.setCell ⟨g, hi * 2, none⟩ (.int .u64 V.live)).cell? ⟨g, lo * 2 + 1, none⟩ = some (.int .u64 X.id) := (cell_setCell_ne (by omega)).trans ((hI.cell (by simp; exact lt_of_cell gx1)).trans ((cell_setCell_ne (by omega)).trans gx1))
      have cy1 : (w6.setCell ⟨g, hi * 2, none⟩ (.int .u64 V.live)).cell? ⟨g, hi * 2 + 1, none⟩ = some (.int .u64 Y.id) := (cell_setCell_ne (by omega)).trans ((hI.cell (by simp; exact lt_of_cell gy1)).trans ((cell_setCell_ne (by omega)).trans gy1))
      have hg3 : g < (w6.setCell ⟨g, hi * 2, none⟩ (.int .u64 V.live)).heap.size := Nat.lt_of_lt_of_le hg2 hmC.size
      have HRW3 := Lib.hid hrowC
      have hm3 := hm2.trans hmC
      generalize w6.setCell ⟨g, hi * 2, none⟩ (.int .u64 V.live) = w3 at cx1 cy1 hg3 HRW3 hm3 ⊢
      clear hrowA hrowB hrowC hmA hmC hy6 fy6 gx0 gx1 gy0 gy1 fz hgW hI
      have gx1 := cx1
      have gy1 := cy1
      clear cx1 cy1
      refine NoPanic.normal ?_
      go_wp2_with (fail)
      have hgW := hg3
      have fz : w3.frozen? ⟨g, lo * 2 + 1, none⟩ = false := World.ownsRow.frozenAt HRW3.out _
      refine dirL_plain (by kernel_rfl) 6 10 17 ⟨g, lo * 2 + 1, none⟩ (.int .u64 Z.id) 18 [[], [], [], [], [(35, 3)], [(36, 4)], [(37, 5)], [], [(39, 7)], [(40, 8)], [(41, 9)], [(34, 2), (38, 6), (42, 10)], [(38, 6), (42, 10), (43, 11)], [(38, 6), (42, 10), (31, 12)], [(38, 6), (42, 10), (31, 12)], [(32, 0)], [(46, 15)], [(38, 6), (42, 10), (44, 13), (47, 16)], [(33, 1)], [(48, 18)], [(45, 14), (49, 19)]] [(32, 0), (33, 1), (34, 2), (35, 3), (36, 4), (37, 5), (38, 6), (39, 7), (40, 8), (41, 9), (42, 10), (43, 11), (31, 12), (44, 13), (45, 14), (46, 15), (47, 16)] [
          (fun v => v = .pointer (some ⟨g, lo * 2, none⟩)),
          (fun v => v = .pointer (some ⟨g, hi * 2, none⟩)),
          (fun v => v = .int .u64 (mk r)),
          (fun v => v = .pointer (some ⟨g, lo * 2, none⟩)),
          (fun v => v = .pointer (some ⟨g, lo * 2, none⟩)),
          (fun v => v = .pointer (some ⟨g, lo * 2 + 1, none⟩)),
          (fun v => v = .int .u64 X.id),
          (fun v => v = .pointer (some ⟨g, hi * 2, none⟩)),
          (fun v => v = .pointer (some ⟨g, hi * 2, none⟩)),
          (fun v => v = .pointer (some ⟨g, hi * 2 + 1, none⟩)),
          (fun v => v = .int .u64 Y.id),
          (fun v => v = .tuple #[.int .u64 Z.id, .int .u64 V.id]),
          (fun v => v = .tuple #[.int .u64 Z.id, .int .u64 V.id]),
          (fun v => v = .int .u64 Z.id),
          (fun v => v = .int .u64 V.id),
          (fun v => v = .pointer (some ⟨g, lo * 2, none⟩)),
          (fun v => v = .pointer (some ⟨g, lo * 2 + 1, none⟩)),
          (fun v => True)
        ] (by kernel_rfl) (by kernel_rfl) (by kernel_rfl) (by decide) ?stepsB (by decide) ?finB
      case stepsB =>
        refine ⟨?_, ?_, ?_, ?_, ?_, ?_, ?_, ?_, ?_, ?_, ?_, ?_, ?_, ?_, ?_, ?_, ?_, ?_, trivial⟩
        · intro vs g1 w6 hI hF hR K hK
          simp only [Facts, fill, Act.put, z1, z2, z3, z4, z5, Nat.reduceAdd] at hF hR hK ⊢
          go_simp
          exact hK _ g1 _ hI (by simp [GdirL]) ⟨rfl, by simp, by simp, by simp⟩
        · intro vs g1 w6 hI hF hR K hK
          simp only [Facts, fill, Act.put, z1, z2, z3, z4, z5, Nat.reduceAdd] at hF hR hK ⊢
          go_simp
          exact hK _ g1 _ hI (by simp [GdirL]) ⟨rfl, by simp, by simp, by simp⟩
        · intro vs g1 w6 hI hF hR K hK
          simp only [Facts, fill, Act.put, z1, z2, z3, z4, z5, Nat.reduceAdd] at hF hR hK ⊢
          go_simp
          exact hK _ g1 _ hI (by simp [GdirL]) ⟨rfl, by simp, by simp, by simp⟩
        · intro vs g1 w6 hI hF hR K hK
          simp only [Facts, fill, Act.put, z1, z2, z3, z4, z5, Nat.reduceAdd] at hF hR hK ⊢
          go_simp
          exact hK _ g1 _ hI (by simp [GdirL]) ⟨rfl, by simp, by simp, by simp⟩
        · intro vs g1 w6 hI hF hR K hK
          simp only [Facts, fill, Act.put, z1, z2, z3, z4, z5, Nat.reduceAdd] at hF hR hK ⊢
          obtain ⟨h3, -⟩ := hR
          have r3 := h3.1
          generalize vs 3 = x3 at *
          subst r3
          go_simp
          exact hK _ g1 _ hI (by simp [GdirL]) ⟨rfl, by simp, by simp, by simp⟩
        · intro vs g1 w6 hI hF hR K hK
          simp only [Facts, fill, Act.put, z1, z2, z3, z4, z5, Nat.reduceAdd] at hF hR hK ⊢
          obtain ⟨h4, -⟩ := hR
          have r4 := h4.1
          generalize vs 4 = x4 at *
          subst r4
          go_simp
          exact hK _ g1 _ hI (by simp [GdirL]) ⟨rfl, by simp, by simp, by simp⟩
        · intro vs g1 w6 hI hF hR K hK
          simp only [Facts, fill, Act.put, z1, z2, z3, z4, z5, Nat.reduceAdd] at hF hR hK ⊢
          obtain ⟨h5, -⟩ := hR
          have r5 := h5.1
          generalize vs 5 = x5 at *
          subst r5
          have hs0 : g1.s = false := (by
            cases hb : g1.s with
            | false => rfl
            | true => have := hI.1 hb; have h2 := hF.1 trivial; simp [h2] at this)
          have hI2 := hI.2
          rw [hs0] at hI2
          have k0 := (hI2.cell (lt_of_cell gx1)).trans gx1
          go_simp
          exact hK _ {g1 with a := true} _ ⟨fun h => (by simp [hs0] at h), hI.2⟩ (by simp [GdirL]) ⟨rfl, by simp, by simp, by simp⟩
        · intro vs g1 w6 hI hF hR K hK
          simp only [Facts, fill, Act.put, z1, z2, z3, z4, z5, Nat.reduceAdd] at hF hR hK ⊢
          go_simp
          exact hK _ g1 _ hI (by simp [GdirL]) ⟨rfl, by simp, by simp, by simp⟩
        · intro vs g1 w6 hI hF hR K hK
          simp only [Facts, fill, Act.put, z1, z2, z3, z4, z5, Nat.reduceAdd] at hF hR hK ⊢
          obtain ⟨h7, -⟩ := hR
          have r7 := h7.1
          generalize vs 7 = x7 at *
          subst r7
          go_simp
          exact hK _ g1 _ hI (by simp [GdirL]) ⟨rfl, by simp, by simp, by simp⟩
        · intro vs g1 w6 hI hF hR K hK
          simp only [Facts, fill, Act.put, z1, z2, z3, z4, z5, Nat.reduceAdd] at hF hR hK ⊢
          obtain ⟨h8, -⟩ := hR
          have r8 := h8.1
          generalize vs 8 = x8 at *
          subst r8
          go_simp
          exact hK _ g1 _ hI (by simp [GdirL]) ⟨rfl, by simp, by simp, by simp⟩
        · intro vs g1 w6 hI hF hR K hK
          simp only [Facts, fill, Act.put, z1, z2, z3, z4, z5, Nat.reduceAdd] at hF hR hK ⊢
          obtain ⟨h9, -⟩ := hR
          have r9 := h9.1
          generalize vs 9 = x9 at *
          subst r9
          have hs0 : g1.s = false := (by
            cases hb : g1.s with
            | false => rfl
            | true => have := hI.1 hb; have h2 := hF.2.1 trivial; simp [h2] at this)
          have hI2 := hI.2
          rw [hs0] at hI2
          have k0 := (hI2.cell (lt_of_cell gy1)).trans gy1
          go_simp
          exact hK _ {g1 with b := true} _ ⟨fun h => (by simp [hs0] at h), hI.2⟩ (by simp [GdirL]) ⟨rfl, by simp, by simp, by simp⟩
        · intro vs g1 w6 hI hF hR K hK
          simp only [Facts, fill, Act.put, z1, z2, z3, z4, z5, Nat.reduceAdd] at hF hR hK ⊢
          obtain ⟨h2, h6, h10, -⟩ := hR
          have r2 := h2.1
          have r6 := h6.1
          have r10 := h10.1
          generalize vs 2 = x2, vs 6 = x6, vs 10 = x10 at *
          subst r2 r6 r10
          go_simp
          refine (HSW2.out _).mono ?_
          rintro e w6' ⟨rfl, rfl⟩
          exact hK _ g1 _ hI (by simp [GdirL]) ⟨rfl, by simp, by simp, by simp⟩
        · intro vs g1 w6 hI hF hR K hK
          simp only [Facts, fill, Act.put, z1, z2, z3, z4, z5, Nat.reduceAdd] at hF hR hK ⊢
          obtain ⟨h6, h10, h11, -⟩ := hR
          have r6 := h6.1
          have r10 := h10.1
          have r11 := h11.1
          generalize vs 6 = x6, vs 10 = x10, vs 11 = x11 at *
          subst r6 r10 r11
          go_simp
          exact hK _ g1 _ hI (by simp [GdirL]) ⟨rfl, by simp, by simp, by simp⟩
        · intro vs g1 w6 hI hF hR K hK
          simp only [Facts, fill, Act.put, z1, z2, z3, z4, z5, Nat.reduceAdd] at hF hR hK ⊢
          obtain ⟨h6, h10, h12, -⟩ := hR
          have r6 := h6.1
          have r10 := h10.1
          have r12 := h12.1
          generalize vs 6 = x6, vs 10 = x10, vs 12 = x12 at *
          subst r6 r10 r12
          go_simp
          exact hK _ g1 _ hI (by simp [GdirL]) ⟨rfl, by simp, by simp, by simp⟩
        · intro vs g1 w6 hI hF hR K hK
          simp only [Facts, fill, Act.put, z1, z2, z3, z4, z5, Nat.reduceAdd] at hF hR hK ⊢
          obtain ⟨h6, h10, h12, -⟩ := hR
          have r6 := h6.1
          have r10 := h10.1
          have r12 := h12.1
          generalize vs 6 = x6, vs 10 = x10, vs 12 = x12 at *
          subst r6 r10 r12
          go_simp
          exact hK _ g1 _ hI (by simp [GdirL]) ⟨rfl, by simp, by simp, by simp⟩
        · intro vs g1 w6 hI hF hR K hK
          simp only [Facts, fill, Act.put, z1, z2, z3, z4, z5, Nat.reduceAdd] at hF hR hK ⊢
          obtain ⟨h0, -⟩ := hR
          have r0 := h0.1
          generalize vs 0 = x0 at *
          subst r0
          go_simp
          exact hK _ g1 _ hI (by simp [GdirL]) ⟨rfl, by simp, by simp, by simp⟩
        · intro vs g1 w6 hI hF hR K hK
          simp only [Facts, fill, Act.put, z1, z2, z3, z4, z5, Nat.reduceAdd] at hF hR hK ⊢
          obtain ⟨h15, -⟩ := hR
          have r15 := h15.1
          generalize vs 15 = x15 at *
          subst r15
          go_simp
          exact hK _ g1 _ hI (by simp [GdirL]) ⟨rfl, by simp, by simp, by simp⟩
        · intro vs g1 w6 hI hF hR K hK
          simp only [Facts, fill, Act.put, z1, z2, z3, z4, z5, Nat.reduceAdd] at hF hR hK ⊢
          obtain ⟨h6, h10, h13, h16, -⟩ := hR
          have hA := h6
          have hB := h10
          have r6 := h6.1
          have r10 := h10.1
          have r13 := h13.1
          have r16 := h16.1
          generalize vs 6 = x6, vs 10 = x10, vs 13 = x13, vs 16 = x16 at *
          subst r6 r10 r13 r16
          have hg1 := hF.2.2 trivial
          have ha1 := hA.2.1 trivial
          have hb1 := hB.2.2.1 trivial
          have hI2 := hI.2
          rw [hg1] at hI2
          have k1 := (hI2.cell (lt_of_cell gx1)).trans gx1
          have k0 : w6.frozen? ⟨g, lo * 2 + 1, none⟩ = false := frozen_keep hI2 (lt_of_cell gx1) fz
          go_simp
          exact hK undef {g1 with s := true} _ ⟨fun _ => ⟨ha1, hb1⟩, below_put hI2 hgW (Nat.le_refl _)⟩ (by simp [GdirL]) ⟨trivial, by simp, by simp, by simp⟩
      case finB =>
        intro vs w6 hI hR
        have r1 := hR 1 (by decide)
        have r14 := hR 14 (by decide)
        simp only [fill, Act.put, z1, z2, z3, z4, z5] at r1 r14 ⊢
        clear hR
        generalize vs 1 = x1 at *
        generalize vs 14 = x14 at *
        subst r1 r14
        have hrowA := (World.ownsRow.stored HRW3.out (lo * 2 + 1) (.int .u64 Z.id)).1
        have hrowB := row_keep (w' := w6) hrowA fun g' hg' => hI.block g' (by have := (World.ownsRow.lt HRW3.out g' hg').2; exact this)
        have hrowC := (World.ownsRow.stored hrowB (hi * 2 + 1) (.int .u64 V.id)).1
        have hmA : Moved (fun b => b = g) w3 w6 := (moved_setc (S := fun b => b = g) (o := lo * 2 + 1) (v := .int .u64 Z.id) rfl).trans (.of_below (hI.mono (by simp)))
        have hmC := hmA.trans (moved_setc (S := fun b => b = g) (W := w6) (o := hi * 2 + 1) (v := .int .u64 V.id) rfl)
        have hy6 : w6.cell? ⟨g, hi * 2 + 1, none⟩ = some (.int .u64 Y.id) := (hI.cell (by simp; exact lt_of_cell gy1)).trans ((cell_setCell_ne (by have := HNE.out; omega)).trans gy1)
        have fy6 : w6.frozen? ⟨g, hi * 2 + 1, none⟩ = false := World.ownsRow.frozenAt hrowB _
        refine wpOps_step rfl rfl ?_
        go_simp
        refine wpOps_step rfl rfl ?_
        go_simp
        refine wpOps_step rfl rfl ?_
        go_simp
        refine NoPanic.normal ?_
        rw [HF.out] at hrowC
        go_wp2
        go_end0
        exact ⟨rfl, hrowC, hm3.trans hmC⟩
end Go.Proofs.YthdghhfdbckilaaDoor
