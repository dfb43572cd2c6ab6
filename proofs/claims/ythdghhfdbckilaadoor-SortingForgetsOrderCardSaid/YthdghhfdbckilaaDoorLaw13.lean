/-
  Layer 13: laws. (Written by law13.py.)
-/
import Derived.Test.YthdghhfdbckilaaDoorSortC
import Derived.Test.YthdghhfdbckilaaDoorLaw10
import Derived.Test.YthdghhfdbckilaaDoorTail
import Derived.Laws.StructEq
namespace Go.Proofs.YthdghhfdbckilaaDoor
open Go.RowKit Go.Maps
set_option maxRecDepth 100000
set_option linter.unusedVariables false
set_option linter.unusedSimpArgs false

theorem sort_ex1 : sortR [⟨1, 7⟩, ⟨0, 9⟩, ⟨1, 3⟩] = [⟨1, 3⟩, ⟨1, 7⟩, ⟨0, 0⟩] := by
  show (sortI (ranks [⟨1, 7⟩, ⟨0, 9⟩, ⟨1, 3⟩])).map unrank = _
  rw [show ranks [⟨1, 7⟩, ⟨0, 9⟩, ⟨1, 3⟩] = [7, 18446744073709551616, 3] by decide +kernel, ← sortI_eq (a := [3, 7, 18446744073709551616]) (l := [7, 18446744073709551616, 3]) (by simp) (by decide)]
  decide +kernel
theorem pair_ex1 : (pairE 3).length = 6 := by decide +kernel
theorem us_ex1 : UsR [⟨1, 7⟩, ⟨0, 9⟩, ⟨1, 3⟩] := by intro r hr; simp at hr; rcases hr with rfl | rfl | rfl <;> (unfold U; decide)
theorem us_ex2 : UsR [⟨1, 3⟩, ⟨1, 7⟩, ⟨0, 0⟩] := by intro r hr; simp at hr; rcases hr with rfl | rfl | rfl <;> (unfold U; decide)
set_option maxHeartbeats 1000000 in
theorem alive13_any (w : World) (hw : Wts w) : Calls Tryd.prog 9 #[] w fun e w' => e = .returned (.bool true) ∧ Below w.heap.size w w' := by
  go_enter Tryd.func9, Tryd.ntmps9
  go_wp2_with (fail)
  refine (tapeNew_any w).mono ?_
  rintro e w1 ⟨tb, rfl, ht, hb1⟩
  have h1 := hb1.alloc hb1.size (.cells #[.int .u64 1, .int .u64 7, .int .u64 0, .int .u64 9, .int .u64 1, .int .u64 3] 24)
  go_wp2_with (fail)
  refine (sortSort_c _ [] (fun g => w.heap.size ≤ g ∧ g < w1.heap.size) (fun b => w1.heap.size ≤ b) _ 3 3 [⟨1, 7⟩, ⟨0, 9⟩, ⟨1, 3⟩] _ (fun W hm => hw.below (hm.below h1 (fun g hg => hg.1) h1.size)) (ht.now.next ((Below.refl _ _).alloc (Nat.le_refl _) _)).o (by simp) (row_lit (C := rcC) (fun _ => rfl) [⟨1, 7⟩, ⟨0, 9⟩, ⟨1, 3⟩]) (fun b hb h => by omega) rfl (by decide) us_ex1).mono ?_
  rintro e w2 ⟨A2, c2, R2, rfl, hc2, hR2, hrow2, hn2, ht2, hm2⟩
  have h2 := hm2.below h1 (fun g hg => hg.1) h1.size
  rw [sort_ex1] at hrow2
  rw [addT_some, List.nil_append] at ht2
  have h3 := h2.alloc h2.size (.cells #[.int .u64 1, .int .u64 3, .int .u64 1, .int .u64 7, .int .u64 0, .int .u64 0] 24)
  have hb3 : Below w2.heap.size w2 (w2.alloc (.cells #[.int .u64 1, .int .u64 3, .int .u64 1, .int .u64 7, .int .u64 0, .int .u64 0] 24)) := (Below.refl _ _).alloc (Nat.le_refl _) _
  go_wp2_with (fail)
  refine (ref13Same_yes A2 _ c2 3 3 3 [⟨1, 3⟩, ⟨1, 7⟩, ⟨0, 0⟩] _ _ _ (hrow2.next hb3) (row_lit (C := rcC) (fun _ => rfl) [⟨1, 3⟩, ⟨1, 7⟩, ⟨0, 0⟩]) rfl rfl (by decide)).mono ?_
  rintro e w4 ⟨rfl, hb4⟩
  have h4 := h3.trans (hb4.mono h3.size)
  have hb34 := hb3.trans (hb4.mono hb3.size)
  go_wp2_with (fail)
  refine (tapeLen_any _ _ _ _ (ht2.next hb34) (by rw [pair_ex1]; decide)).mono ?_
  rintro e w5 ⟨rfl, hb5⟩
  rw [pair_ex1]
  have h5 := h4.trans (hb5.mono h4.size)
  have hb35 := hb34.trans (hb5.mono hb34.size)
  go_wp2_with (fail)
  refine (sortCount_n (r := 2) (hw.below h5) (hrow2.next hb35) rfl (by decide) us_ex2 (by decide +kernel)).mono ?_
  rintro e w6 ⟨rfl, hb6⟩
  go_wp2
  go_ret
  exact ⟨rfl, h5.trans (hb6.mono h5.size)⟩
theorem refMask_b (r : Bool) (w : World) : Calls Tryd.prog 13 #[.bool r] w fun e w' => e = .returned (.int .u64 (mk r)) ∧ Below w.heap.size w w' := by
  refine (refMask_any r w).mono ?_
  rintro e w' ⟨rfl, hw⟩
  subst hw
  exact ⟨rfl, Below.refl _ _⟩
set_option maxHeartbeats 1000000 in
theorem law_sortingCompares (x y : Rc) (w : World) (hw : Wts w) (hx : U x.live ∧ U x.id) (hy : U y.live ∧ U y.id) :
    Calls Tryd.prog 3 #[.agg #[.int .u64 x.live, .int .u64 x.id], .agg #[.int .u64 y.live, .int .u64 y.id]] w fun e w' => e = .returned (.bool true) ∧ Below w.heap.size w w' := by
  obtain ⟨r, hr⟩ : ∃ r, lessR x y = r := ⟨_, rfl⟩
  have HX := Lib.hid hx
  have HY := Lib.hid hy
  have HR := Lib.hid hr
  obtain ⟨W, hW⟩ : ∃ W, W = (w.alloc (.cells #[.int .u64 x.live, .int .u64 x.id] 24)).alloc (.cells #[.int .u64 y.live, .int .u64 y.id] 24) := ⟨_, rfl⟩
  obtain ⟨bx, hbx⟩ : ∃ bx, bx = w.heap.size := ⟨_, rfl⟩
  obtain ⟨by_, hby⟩ : ∃ b, b = w.heap.size + 1 := ⟨_, rfl⟩
  have h0 : Below w.heap.size w W := by rw [hW]; exact ((Below.refl _ _).alloc (Nat.le_refl _) _).alloc (by simp) _
  have kx0 : W.cell? ⟨bx, 0, none⟩ = some (.int .u64 x.live) := by rw [hW, hbx]; simp [go_sem]
  have kx1 : W.cell? ⟨bx, 1, none⟩ = some (.int .u64 x.id) := by rw [hW, hbx]; simp [go_sem]
  have ky0 : W.cell? ⟨by_, 0, none⟩ = some (.int .u64 y.live) := by rw [hW, hby]; simp [go_sem]
  have ky1 : W.cell? ⟨by_, 1, none⟩ = some (.int .u64 y.id) := by rw [hW, hby]; simp [go_sem]
  have hwW : ∀ {w2 : World}, Below W.heap.size W w2 → Wts w2 := fun h => hw.below (h0.trans (h.mono h0.size))
  have HW := Lib.hid hW
  have HB := Lib.hid hbx
  have HB2 := Lib.hid hby
  clear hW hbx hby hx hy hr
  go_enter Tryd.func3, Tryd.ntmps3
  go_upto_region 1 with (fail)
  rw [← HW.out, ← HB2.out, ← HB.out]
  refine dir_plain (by kernel_rfl) 19 [[], [(5, 0)], [(6, 1)], [(6, 1), (7, 2)], [(6, 1)], [(6, 1), (9, 4)], [(6, 1), (8, 3), (10, 5)], [(6, 1), (11, 6)], [(12, 7)], [(13, 8)], [(13, 8)], [(13, 8), (14, 9), (15, 10)], [(13, 8)], [(13, 8)], [(13, 8), (17, 12), (18, 13)], [(13, 8), (19, 14)], [(13, 8), (16, 11), (20, 15)], [(13, 8), (21, 16)], [(22, 17)]] [(5, 0), (6, 1), (7, 2), (8, 3), (9, 4), (10, 5), (11, 6), (12, 7), (13, 8), (14, 9), (15, 10), (16, 11), (17, 12), (18, 13), (19, 14), (20, 15), (21, 16), (22, 17), (4, 18)] [
      (fun v _ => v = .bool true),
      (fun v _ => v = .bool true),
      (fun v _ => v = .agg #[.int .u64 x.live, .int .u64 x.id]),
      (fun v _ => v = .agg #[.int .u64 (cleanR x).live, .int .u64 (cleanR x).id]),
      (fun v _ => v = .agg #[.int .u64 x.live, .int .u64 x.id]),
      (fun v _ => v = .agg #[.int .u64 (cleanR x).live, .int .u64 (cleanR x).id]),
      (fun v _ => v = .bool true),
      (fun v _ => v = .bool true),
      (fun v _ => v = .bool true),
      (fun v _ => v = .agg #[.int .u64 x.live, .int .u64 x.id]),
      (fun v _ => v = .agg #[.int .u64 y.live, .int .u64 y.id]),
      (fun v _ => v = .int .u64 (mk r)),
      (fun v _ => v = .agg #[.int .u64 x.live, .int .u64 x.id]),
      (fun v _ => v = .agg #[.int .u64 y.live, .int .u64 y.id]),
      (fun v _ => v = .bool r),
      (fun v _ => v = .int .u64 (mk r)),
      (fun v _ => v = .bool true),
      (fun v _ => v = .bool true),
      (fun v _ => v = .bool true)
    ] (by kernel_rfl) (by kernel_rfl) (by kernel_rfl) (by decide) ⟨dstab_eq, dstab_eq, dstab_eq, dstab_eq, dstab_eq, dstab_eq, dstab_eq, dstab_eq, dstab_eq, dstab_eq, dstab_eq, dstab_eq, dstab_eq, dstab_eq, dstab_eq, dstab_eq, dstab_eq, dstab_eq, dstab_eq, trivial⟩ ?steps ?fin
  case steps =>
    refine ⟨?_, ?_, ?_, ?_, ?_, ?_, ?_, ?_, ?_, ?_, ?_, ?_, ?_, ?_, ?_, ?_, ?_, ?_, ?_, trivial⟩
    · intro vs g w2 hI hF hR K hK
      simp only [Facts, fill, Act.put, z1, z2, z3, z4, z5, Nat.reduceAdd] at hF hR hK ⊢
      go_simp
      refine (alive13_any _ (hwW hI)).mono ?_
      rintro e w3 ⟨rfl, hb⟩
      exact hK _ () _ (hI.trans (hb.mono hI.size)) hb rfl
    · intro vs g w2 hI hF hR K hK
      simp only [Facts, fill, Act.put, z1, z2, z3, z4, z5, Nat.reduceAdd] at hF hR hK ⊢
      obtain ⟨r0, -⟩ := hR
      generalize vs 0 = x0 at *
      subst r0
      go_simp
      exact hK _ () _ hI (Below.refl _ _) rfl
    · intro vs g w2 hI hF hR K hK
      simp only [Facts, fill, Act.put, z1, z2, z3, z4, z5, Nat.reduceAdd] at hF hR hK ⊢
      obtain ⟨r1, -⟩ := hR
      generalize vs 1 = x1 at *
      subst r1
      have k0 := (hI.cell (cell_lt kx0)).trans kx0
      have k1 := (hI.cell (cell_lt kx1)).trans kx1
      go_simp
      exact hK _ () _ hI (Below.refl _ _) rfl
    · intro vs g w2 hI hF hR K hK
      simp only [Facts, fill, Act.put, z1, z2, z3, z4, z5, Nat.reduceAdd] at hF hR hK ⊢
      obtain ⟨r1, r2, -⟩ := hR
      generalize vs 1 = x1, vs 2 = x2 at *
      subst r1 r2
      go_simp
      refine (sortClean_c x _ (hwW hI) HX.out).mono ?_
      rintro e w3 ⟨rfl, hb⟩
      exact hK _ () _ (hI.trans (hb.mono hI.size)) hb rfl
    · intro vs g w2 hI hF hR K hK
      simp only [Facts, fill, Act.put, z1, z2, z3, z4, z5, Nat.reduceAdd] at hF hR hK ⊢
      obtain ⟨r1, -⟩ := hR
      generalize vs 1 = x1 at *
      subst r1
      have k0 := (hI.cell (cell_lt kx0)).trans kx0
      have k1 := (hI.cell (cell_lt kx1)).trans kx1
      go_simp
      exact hK _ () _ hI (Below.refl _ _) rfl
    · intro vs g w2 hI hF hR K hK
      simp only [Facts, fill, Act.put, z1, z2, z3, z4, z5, Nat.reduceAdd] at hF hR hK ⊢
      obtain ⟨r1, r4, -⟩ := hR
      generalize vs 1 = x1, vs 4 = x4 at *
      subst r1 r4
      go_simp
      refine (ref13Clean_any x _ HX.out.1).mono ?_
      rintro e w3 ⟨rfl, hb⟩
      exact hK _ () _ (hI.trans (hb.mono hI.size)) hb rfl
    · intro vs g w2 hI hF hR K hK
      simp only [Facts, fill, Act.put, z1, z2, z3, z4, z5, Nat.reduceAdd] at hF hR hK ⊢
      obtain ⟨r1, r3, r5, -⟩ := hR
      generalize vs 1 = x1, vs 3 = x3, vs 5 = x5 at *
      subst r1 r3 r5
      have hz0 : ((cleanR x).live == (cleanR x).live) = true := beq_self_eq_true _
      have hz1 : ((cleanR x).id == (cleanR x).id) = true := beq_self_eq_true _
      generalize (cleanR x).live = p at *
      generalize (cleanR x).id = q at *
      go_simp
      exact hK _ () _ hI (Below.refl _ _) rfl
    · intro vs g w2 hI hF hR K hK
      simp only [Facts, fill, Act.put, z1, z2, z3, z4, z5, Nat.reduceAdd] at hF hR hK ⊢
      obtain ⟨r1, r6, -⟩ := hR
      generalize vs 1 = x1, vs 6 = x6 at *
      subst r1 r6
      go_simp
      exact hK _ () _ hI (Below.refl _ _) rfl
    · intro vs g w2 hI hF hR K hK
      simp only [Facts, fill, Act.put, z1, z2, z3, z4, z5, Nat.reduceAdd] at hF hR hK ⊢
      obtain ⟨r7, -⟩ := hR
      generalize vs 7 = x7 at *
      subst r7
      go_simp
      exact hK _ () _ hI (Below.refl _ _) rfl
    · intro vs g w2 hI hF hR K hK
      simp only [Facts, fill, Act.put, z1, z2, z3, z4, z5, Nat.reduceAdd] at hF hR hK ⊢
      obtain ⟨r8, -⟩ := hR
      generalize vs 8 = x8 at *
      subst r8
      have k0 := (hI.cell (cell_lt kx0)).trans kx0
      have k1 := (hI.cell (cell_lt kx1)).trans kx1
      go_simp
      exact hK _ () _ hI (Below.refl _ _) rfl
    · intro vs g w2 hI hF hR K hK
      simp only [Facts, fill, Act.put, z1, z2, z3, z4, z5, Nat.reduceAdd] at hF hR hK ⊢
      obtain ⟨r8, -⟩ := hR
      generalize vs 8 = x8 at *
      subst r8
      have k0 := (hI.cell (cell_lt ky0)).trans ky0
      have k1 := (hI.cell (cell_lt ky1)).trans ky1
      go_simp
      exact hK _ () _ hI (Below.refl _ _) rfl
    · intro vs g w2 hI hF hR K hK
      simp only [Facts, fill, Act.put, z1, z2, z3, z4, z5, Nat.reduceAdd] at hF hR hK ⊢
      obtain ⟨r8, r9, r10, -⟩ := hR
      generalize vs 8 = x8, vs 9 = x9, vs 10 = x10 at *
      subst r8 r9 r10
      go_simp
      refine (sortLess_c x y r _ (hwW hI) HX.out HY.out HR.out).mono ?_
      rintro e w3 ⟨rfl, hb⟩
      exact hK _ () _ (hI.trans (hb.mono hI.size)) hb rfl
    · intro vs g w2 hI hF hR K hK
      simp only [Facts, fill, Act.put, z1, z2, z3, z4, z5, Nat.reduceAdd] at hF hR hK ⊢
      obtain ⟨r8, -⟩ := hR
      generalize vs 8 = x8 at *
      subst r8
      have k0 := (hI.cell (cell_lt kx0)).trans kx0
      have k1 := (hI.cell (cell_lt kx1)).trans kx1
      go_simp
      exact hK _ () _ hI (Below.refl _ _) rfl
    · intro vs g w2 hI hF hR K hK
      simp only [Facts, fill, Act.put, z1, z2, z3, z4, z5, Nat.reduceAdd] at hF hR hK ⊢
      obtain ⟨r8, -⟩ := hR
      generalize vs 8 = x8 at *
      subst r8
      have k0 := (hI.cell (cell_lt ky0)).trans ky0
      have k1 := (hI.cell (cell_lt ky1)).trans ky1
      go_simp
      exact hK _ () _ hI (Below.refl _ _) rfl
    · intro vs g w2 hI hF hR K hK
      simp only [Facts, fill, Act.put, z1, z2, z3, z4, z5, Nat.reduceAdd] at hF hR hK ⊢
      obtain ⟨r8, r12, r13, -⟩ := hR
      generalize vs 8 = x8, vs 12 = x12, vs 13 = x13 at *
      subst r8 r12 r13
      go_simp
      refine (ref13Less_any x y r _ HX.out HY.out HR.out).mono ?_
      rintro e w3 ⟨rfl, hb⟩
      exact hK _ () _ (hI.trans (hb.mono hI.size)) hb rfl
    · intro vs g w2 hI hF hR K hK
      simp only [Facts, fill, Act.put, z1, z2, z3, z4, z5, Nat.reduceAdd] at hF hR hK ⊢
      obtain ⟨r8, r14, -⟩ := hR
      generalize vs 8 = x8, vs 14 = x14 at *
      subst r8 r14
      go_simp
      refine (refMask_b r _).mono ?_
      rintro e w3 ⟨rfl, hb⟩
      exact hK _ () _ (hI.trans (hb.mono hI.size)) hb rfl
    · intro vs g w2 hI hF hR K hK
      simp only [Facts, fill, Act.put, z1, z2, z3, z4, z5, Nat.reduceAdd] at hF hR hK ⊢
      obtain ⟨r8, r11, r15, -⟩ := hR
      generalize vs 8 = x8, vs 11 = x11, vs 15 = x15 at *
      subst r8 r11 r15
      have hz0 : (mk r == mk r) = true := beq_self_eq_true _
      generalize mk r = p at *
      go_simp
      exact hK _ () _ hI (Below.refl _ _) rfl
    · intro vs g w2 hI hF hR K hK
      simp only [Facts, fill, Act.put, z1, z2, z3, z4, z5, Nat.reduceAdd] at hF hR hK ⊢
      obtain ⟨r8, r16, -⟩ := hR
      generalize vs 8 = x8, vs 16 = x16 at *
      subst r8 r16
      go_simp
      exact hK _ () _ hI (Below.refl _ _) rfl
    · intro vs g w2 hI hF hR K hK
      simp only [Facts, fill, Act.put, z1, z2, z3, z4, z5, Nat.reduceAdd] at hF hR hK ⊢
      obtain ⟨r17, -⟩ := hR
      generalize vs 17 = x17 at *
      subst r17
      go_simp
      exact hK _ () _ hI (Below.refl _ _) rfl
  case fin =>
    intro vs w2 hI hR
    have r18 := hR 18 (by decide)
    simp only [fill, Act.put, z1, z2, z3, z4, z5] at r18 ⊢
    clear hR
    generalize vs 18 = x18 at *
    subst r18
    refine NoPanic.normal ?_
    go_wp2
    go_ret
    exact ⟨rfl, h0.trans (hI.mono h0.size)⟩
/-- A list of records that comes in. -/
structure ArgR (w : World) (A : Option Addr) (c : Nat) (l : List Rc) : Prop where
  row : RowR w (fun _ => True) 2 rcC A l
  us : UsR l
  nil : A = none → c = 0
theorem ArgR.next {w w' : World} {A : Option Addr} {c : Nat} {l : List Rc} (h : ArgR w A c l) (hb : Below w.heap.size w w') : ArgR w' A c l := ⟨h.row.next hb, h.us, h.nil⟩
set_option maxHeartbeats 1000000 in
theorem law_sortingSorts (A : Option Addr) (c : Nat) (l : List Rc) (w : World) (hw : Wts w) (ha : ArgR w A c l) :
    Calls Tryd.prog 4 #[.slice A l.length c] w fun e w' => e = .returned (.bool true) ∧ Below w.heap.size w w' := by
  by_cases hgt : 100 < l.length
  · go_enter Tryd.func4, Tryd.ntmps4
    go_wp2_with (fail)
    refine (alive13_any w hw).mono ?_
    rintro e w1 ⟨rfl, hb⟩
    go_wp2
    go_ret
    exact ⟨rfl, hb⟩
  · obtain ⟨r, hr⟩ : ∃ r : Int, (liveN l : Int) = r := ⟨_, rfl⟩
    have HR := Lib.hid hr
    have hz : (r == r) = true := beq_self_eq_true _
    have hsl := sortR_len l
    have HSL := Lib.hid hsl
    clear hr hsl
    go_enter Tryd.func4, Tryd.ntmps4
    go_wp2_with (fail)
    refine (cloneRc_any A c _ l _ w ha.row rfl ha.nil (by omega)).mono ?_
    rintro e w1 ⟨v1, rfl, hown1, hb1⟩
    obtain ⟨A1, c1, rfl, _, _, hrow1, hn1⟩ := own_rowR (C := rcC) (fun _ => rfl) hown1
    go_wp2_with (fail)
    refine (sortSort_n (hw.below hb1) (ha.next hb1).row rfl (by omega) ha.us).mono ?_
    rintro e w2 ⟨A2, c2, rfl, _, hrow2, hn2, hb2⟩
    have h2 := hb1.trans (hb2.mono hb1.size)
    have hrow1 := hrow1.next hb2
    go_wp2_with (fail)
    refine (alive13_any w2 (hw.below h2)).mono ?_
    rintro e w3 ⟨rfl, hb3⟩
    have h3 := h2.trans (hb3.mono h2.size)
    have hrow1 := hrow1.next hb3
    have hrow2 := hrow2.next hb3
    go_wp2_with (fail)
    refine (ref13Sort_any A c l _ w3 (ha.next h3).row (by omega) ha.us).mono ?_
    rintro e w4 ⟨v4, rfl, hown4, hb4⟩
    have h4 := h3.trans (hb4.mono h3.size)
    have hrow1 := hrow1.next hb4
    have hrow2 := hrow2.next hb4
    rw [← HSL.out] at hown4
    obtain ⟨A4, c4, rfl, _, _, hrow4, _⟩ := own_rowR (C := rcC) (fun _ => rfl) hown4
    rw [HSL.out]
    go_wp2_with (fail)
    refine (ref13Same_yes A2 A4 c2 c4 _ _ (sortR l) _ _ w4 hrow2 hrow4 HSL.out.symm HSL.out.symm (by rw [HSL.out]; omega)).mono ?_
    rintro e w5 ⟨rfl, hb5⟩
    have h5 := h4.trans (hb5.mono h4.size)
    have hrow1 := hrow1.next hb5
    go_wp2_with (fail)
    refine (ref13Same_yes A A1 c c1 _ _ l _ _ w5 (ha.next h5).row hrow1 rfl rfl (by omega)).mono ?_
    rintro e w6 ⟨rfl, hb6⟩
    have h6 := h5.trans (hb6.mono h5.size)
    go_wp2_with (fail)
    refine (sortCount_n (r := r) (hw.below h6) (ha.next h6).row rfl (by omega) ha.us HR.out).mono ?_
    rintro e w7 ⟨rfl, hb7⟩
    have h7 := h6.trans (hb7.mono h6.size)
    go_wp2_with (fail)
    refine (ref13Count_any A c l r _ w7 (ha.next h7).row (by omega) ha.us HR.out).mono ?_
    rintro e w8 ⟨rfl, hw8⟩
    obtain rfl := hw8.symm
    go_wp2
    go_ret
    exact ⟨rfl, h7⟩
end Go.Proofs.YthdghhfdbckilaaDoor
