/-
  Layer 15: laws. (Written by law15.py.)
-/
import Derived.Test.YtehnpmkolabiaaaDoorRef15
import Derived.Test.YtehnpmkolabiaaaDoorLaw10
import Derived.Test.YtehnpmkolabiaaaDoorWords
import Derived.BigQuiet
import Derived.Deep.QuietTactic
import Derived.Deep.RegionLaw
import Derived.Laws.StructEq
namespace Go.Proofs.YtehnpmkolabiaaaDoor
open Go.RowKit Go.Maps
set_option maxRecDepth 100000
set_option linter.unusedVariables false
set_option linter.unusedSimpArgs false

theorem RowR.lowD {w : World} {A : Option Addr} {l : List Pt} (h : RowR w (fun _ => True) 2 ptC A l) : RowR w (fun b => b < w.heap.size) 2 ptC A l := (h.now (fun _ => by simp [ptC])).imp fun _ h => h.2
theorem refMask_d (r : Bool) (w : World) : Calls Tryd.prog 11 #[.bool r] w fun e w' => e = .returned (.int .u64 (mk r)) ∧ Below w.heap.size w w' := by
  refine (refMask_any r w).mono ?_
  rintro e w' ⟨rfl, hw⟩
  subst hw
  exact ⟨rfl, Below.refl _ _⟩
def tri1 : List Pt := [⟨5, 0⟩, ⟨0, 5⟩, ⟨-5, 0⟩]
def tri2 : List Pt := [⟨0, 0⟩, ⟨1, 1⟩, ⟨2, 2⟩]
theorem tri1_ss : SsP tri1 := by intro p hp; simp [tri1] at hp; rcases hp with rfl | rfl | rfl <;> (unfold S; decide)
theorem tri2_ss : SsP tri2 := by intro p hp; simp [tri2] at hp; rcases hp with rfl | rfl | rfl <;> (unfold S; decide)
theorem tri_1 : validD tri1 = true := by decide +kernel
theorem tri_2 : validD tri2 = false := by decide +kernel
theorem tri_3 : locD tri1 ⟨3, 4⟩ = 0 := by decide +kernel
theorem tri_4 : locD tri1 ⟨1, 1⟩ = 1 := by decide +kernel
theorem tri_5 : locD tri1 ⟨4, 4⟩ = -1 := by decide +kernel
set_option maxHeartbeats 1000000 in
theorem alive15_any (w : World) (hw : Wts w) : Calls Tryd.prog 9 #[] w fun e w' => e = .returned (.bool true) ∧ Below w.heap.size w w' := by
  obtain ⟨W, hW⟩ : ∃ W, W = w.alloc (.cells #[.int .i64 5, .int .i64 0, .int .i64 0, .int .i64 5, .int .i64 (-5), .int .i64 0] 24) := ⟨_, rfl⟩
  obtain ⟨bv, hbv⟩ : ∃ bv, bv = w.heap.size := ⟨_, rfl⟩
  have h0 : Below w.heap.size w W := by rw [hW]; exact (Below.refl _ _).alloc (Nat.le_refl _) _
  have hr0 : RowR W (fun b => w.heap.size ≤ b) 2 ptC (some ⟨bv, 0, none⟩) tri1 := by rw [hW, hbv]; exact row_lit (C := ptC) (fun _ => rfl) tri1
  have HW := Lib.hid hW
  have HB := Lib.hid hbv
  clear hW hbv
  go_enter Tryd.func9, Tryd.ntmps9
  go_upto_region 2 with (fail)
  rw [← HW.out, ← HB.out]
  go_wp2_with (fail)
  refine (discValid_n (l := tri1) (hw.below h0) hr0 rfl tri1_ss tri_1).mono ?_
  rintro e w1 ⟨rfl, hb1⟩
  rw [show mk true = 18446744073709551615 from rfl]
  have h1 := h0.trans (hb1.mono h0.size)
  have hr1 := hr0.next hb1
  have hbA := h1.alloc h1.size (.cells #[.int .i64 0, .int .i64 0, .int .i64 1, .int .i64 1, .int .i64 2, .int .i64 2] 24)
  have hb1A : Below w1.heap.size w1 (w1.alloc (.cells #[.int .i64 0, .int .i64 0, .int .i64 1, .int .i64 1, .int .i64 2, .int .i64 2] 24)) := (Below.refl _ _).alloc (Nat.le_refl _) _
  go_wp2_with (fail)
  refine (discValid_n (l := tri2) (hw.below hbA) (row_lit (w := w1) (C := ptC) (fun _ => rfl) tri2) rfl tri2_ss tri_2).mono ?_
  rintro e w2 ⟨rfl, hb2⟩
  rw [show mk false = 0 from rfl]
  have h2 := hbA.trans (hb2.mono hbA.size)
  have hr2 := (hr1.next hb1A).next hb2
  go_wp2_with (fail)
  refine (discLocate_n (l := tri1) (p := ⟨3, 4⟩) (hw.below h2) hr2 rfl tri1_ss (by unfold S; decide) tri_3).mono ?_
  rintro e w5 ⟨rfl, hb5⟩
  have h5 := h2.trans (hb5.mono h2.size)
  go_wp2_with (fail)
  refine (discLocate_n (l := tri1) (p := ⟨1, 1⟩) (hw.below h5) (hr2.next hb5) rfl tri1_ss (by unfold S; decide) tri_4).mono ?_
  rintro e w6 ⟨rfl, hb6⟩
  have h6 := h5.trans (hb6.mono h5.size)
  go_wp2_with (fail)
  refine (discLocate_n (l := tri1) (p := ⟨4, 4⟩) (hw.below h6) ((hr2.next hb5).next hb6) rfl tri1_ss (by unfold S; decide) tri_5).mono ?_
  rintro e w7 ⟨rfl, hb7⟩
  go_wp2
  go_ret
  exact ⟨rfl, h6.trans (hb7.mono h6.size)⟩
set_option maxHeartbeats 1000000 in
theorem law_discMatchesReference (A : Option Addr) (c : Nat) (l : List Pt) (p : Pt) (w : World) (hw : Wts w) (ha : RowR w (fun _ => True) 2 ptC A l) (hS : SsP l) (hp : S p.x ∧ S p.y) :
    Calls Tryd.prog 3 #[.slice A l.length c, .agg #[.int .i64 p.x, .int .i64 p.y]] w fun e w' => e = .returned (.bool true) ∧ Below w.heap.size w w' := by
  obtain ⟨N, hN⟩ : ∃ N, N = l.length := ⟨_, rfl⟩
  obtain ⟨r, hr⟩ : ∃ r, validD l = r := ⟨_, rfl⟩
  obtain ⟨s, hs⟩ : ∃ s, locD l p = s := ⟨_, rfl⟩
  rw [← hN]
  have HR := Lib.hid hr
  have HS := Lib.hid hs
  have HN := Lib.hid hN
  clear hr hs hN
  obtain ⟨W, hW⟩ : ∃ W, W = w.alloc (.cells #[.int .i64 p.x, .int .i64 p.y] 24) := ⟨_, rfl⟩
  obtain ⟨bx, hbx⟩ : ∃ bx, bx = w.heap.size := ⟨_, rfl⟩
  have h0 : Below w.heap.size w W := by rw [hW]; exact (Below.refl _ _).alloc (Nat.le_refl _) _
  have kx0 : W.cell? ⟨bx, 0, none⟩ = some (.int .i64 p.x) := by rw [hW, hbx]; simp [go_sem]
  have kx1 : W.cell? ⟨bx, 1, none⟩ = some (.int .i64 p.y) := by rw [hW, hbx]; simp [go_sem]
  have hbW : bx < W.heap.size := lt_of_cell kx0
  have hwW : ∀ {w2 : World}, Below W.heap.size W w2 → Wts w2 := fun h => hw.below (h0.trans (h.mono h0.size))
  have HP := Lib.hid hp
  have HW := Lib.hid hW
  have HB := Lib.hid hbx
  clear hW hbx hp
  go_enter Tryd.func3, Tryd.ntmps3
  go_upto_region 1 with (fail)
  rw [← HW.out, ← HB.out]
  refine dir_plain (by kernel_rfl) 19 [[], [(5, 0)], [(6, 1)], [(6, 1), (7, 2)], [(6, 1)], [(6, 1), (9, 4)], [(6, 1), (10, 5)], [(6, 1), (8, 3), (11, 6)], [(6, 1), (12, 7)], [(13, 8)], [(14, 9)], [(14, 9)], [(14, 9), (15, 10), (16, 11)], [(14, 9)], [(14, 9)], [(14, 9), (18, 13), (19, 14)], [(14, 9), (17, 12), (20, 15)], [(14, 9), (21, 16)], [(22, 17)]] [(5, 0), (6, 1), (7, 2), (8, 3), (9, 4), (10, 5), (11, 6), (12, 7), (13, 8), (14, 9), (15, 10), (16, 11), (17, 12), (18, 13), (19, 14), (20, 15), (21, 16), (22, 17), (4, 18)] [
      (fun v _ => v = .bool true),
      (fun v _ => v = .bool true),
      (fun v _ => v = .slice A N c),
      (fun v _ => v = .int .u64 (mk r)),
      (fun v _ => v = .slice A N c),
      (fun v _ => v = .bool r),
      (fun v _ => v = .int .u64 (mk r)),
      (fun v _ => v = .bool true),
      (fun v _ => v = .bool true),
      (fun v _ => v = .bool true),
      (fun v _ => v = .slice A N c),
      (fun v _ => v = .agg #[.int .i64 p.x, .int .i64 p.y]),
      (fun v _ => v = .int .i64 s),
      (fun v _ => v = .slice A N c),
      (fun v _ => v = .agg #[.int .i64 p.x, .int .i64 p.y]),
      (fun v _ => v = .int .i64 s),
      (fun v _ => v = .bool true),
      (fun v _ => v = .bool true),
      (fun v _ => v = .bool true)
    ] (by kernel_rfl) (by kernel_rfl) (by kernel_rfl) (by decide) ⟨dstab_eq, dstab_eq, dstab_eq, dstab_eq, dstab_eq, dstab_eq, dstab_eq, dstab_eq, dstab_eq, dstab_eq, dstab_eq, dstab_eq, dstab_eq, dstab_eq, dstab_eq, dstab_eq, dstab_eq, dstab_eq, dstab_eq, trivial⟩ ?steps ?fin
  case steps =>
    refine ⟨?_, ?_, ?_, ?_, ?_, ?_, ?_, ?_, ?_, ?_, ?_, ?_, ?_, ?_, ?_, ?_, ?_, ?_, ?_, trivial⟩
    · intro vs g w2 hI hF hR K hK
      simp only [Facts, fill, Act.put, z1, z2, z3, z4, z5, Nat.reduceAdd] at hF hR hK ⊢
      go_simp
      refine (alive15_any _ (hwW hI)).mono ?_
      rintro e w3 ⟨rfl, hb⟩
      exact hK _ () _ (hI.trans (hb.mono hI.size)) hb rfl
    · intro vs g w2 hI hF hR K hK
      simp only [Facts, fill, Act.put, z1, z2, z3, z4, z5, Nat.reduceAdd] at hF hR hK ⊢
      obtain ⟨r0, -⟩ := hR
      generalize vs 0 = x0 at *
      subst r0
      go_simp
      exact hK _ () _ hI (Below.refl _ _) rfl
    · intro vs g w2 hI hF hR K hK
      simp only [Facts, fill, Act.put, z1, z2, z3, z4, z5, Nat.reduceAdd] at hF hR hK ⊢
      obtain ⟨r1, -⟩ := hR
      generalize vs 1 = x1 at *
      subst r1
      go_simp
      exact hK _ () _ hI (Below.refl _ _) rfl
    · intro vs g w2 hI hF hR K hK
      simp only [Facts, fill, Act.put, z1, z2, z3, z4, z5, Nat.reduceAdd] at hF hR hK ⊢
      obtain ⟨r1, r2, -⟩ := hR
      generalize vs 1 = x1, vs 2 = x2 at *
      subst r1 r2
      go_simp
      refine (discValid_n (hwW hI) (ha.next (h0.trans (hI.mono h0.size))) HN.out hS HR.out).mono ?_
      rintro e w3 ⟨rfl, hb⟩
      exact hK _ () _ (hI.trans (hb.mono hI.size)) hb rfl
    · intro vs g w2 hI hF hR K hK
      simp only [Facts, fill, Act.put, z1, z2, z3, z4, z5, Nat.reduceAdd] at hF hR hK ⊢
      obtain ⟨r1, -⟩ := hR
      generalize vs 1 = x1 at *
      subst r1
      go_simp
      exact hK _ () _ hI (Below.refl _ _) rfl
    · intro vs g w2 hI hF hR K hK
      simp only [Facts, fill, Act.put, z1, z2, z3, z4, z5, Nat.reduceAdd] at hF hR hK ⊢
      obtain ⟨r1, r4, -⟩ := hR
      generalize vs 1 = x1, vs 4 = x4 at *
      subst r1 r4
      go_simp
      refine (ref15Valid_any A c N l r _ _ (ha.next (h0.trans (hI.mono h0.size))) HN.out hS HR.out).mono ?_
      rintro e w3 ⟨rfl, hb⟩
      exact hK _ () _ (hI.trans (hb.mono hI.size)) hb rfl
    · intro vs g w2 hI hF hR K hK
      simp only [Facts, fill, Act.put, z1, z2, z3, z4, z5, Nat.reduceAdd] at hF hR hK ⊢
      obtain ⟨r1, r5, -⟩ := hR
      generalize vs 1 = x1, vs 5 = x5 at *
      subst r1 r5
      go_simp
      refine (refMask_d r _).mono ?_
      rintro e w3 ⟨rfl, hb⟩
      exact hK _ () _ (hI.trans (hb.mono hI.size)) hb rfl
    · intro vs g w2 hI hF hR K hK
      simp only [Facts, fill, Act.put, z1, z2, z3, z4, z5, Nat.reduceAdd] at hF hR hK ⊢
      obtain ⟨r1, r3, r6, -⟩ := hR
      generalize vs 1 = x1, vs 3 = x3, vs 6 = x6 at *
      subst r1 r3 r6
      have hd := beq_self_eq_true (mk r)
      go_simp
      exact hK _ () _ hI (Below.refl _ _) rfl
    · intro vs g w2 hI hF hR K hK
      simp only [Facts, fill, Act.put, z1, z2, z3, z4, z5, Nat.reduceAdd] at hF hR hK ⊢
      obtain ⟨r1, r7, -⟩ := hR
      generalize vs 1 = x1, vs 7 = x7 at *
      subst r1 r7
      go_simp
      exact hK _ () _ hI (Below.refl _ _) rfl
    · intro vs g w2 hI hF hR K hK
      simp only [Facts, fill, Act.put, z1, z2, z3, z4, z5, Nat.reduceAdd] at hF hR hK ⊢
      obtain ⟨r8, -⟩ := hR
      generalize vs 8 = x8 at *
      subst r8
      go_simp
      exact hK _ () _ hI (Below.refl _ _) rfl
    · intro vs g w2 hI hF hR K hK
      simp only [Facts, fill, Act.put, z1, z2, z3, z4, z5, Nat.reduceAdd] at hF hR hK ⊢
      obtain ⟨r9, -⟩ := hR
      generalize vs 9 = x9 at *
      subst r9
      go_simp
      exact hK _ () _ hI (Below.refl _ _) rfl
    · intro vs g w2 hI hF hR K hK
      simp only [Facts, fill, Act.put, z1, z2, z3, z4, z5, Nat.reduceAdd] at hF hR hK ⊢
      obtain ⟨r9, -⟩ := hR
      generalize vs 9 = x9 at *
      subst r9
      have k0 := (hI.cell (lt_of_cell kx0)).trans kx0
      have k1 := (hI.cell (lt_of_cell kx1)).trans kx1
      go_simp
      exact hK _ () _ hI (Below.refl _ _) rfl
    · intro vs g w2 hI hF hR K hK
      simp only [Facts, fill, Act.put, z1, z2, z3, z4, z5, Nat.reduceAdd] at hF hR hK ⊢
      obtain ⟨r9, r10, r11, -⟩ := hR
      generalize vs 9 = x9, vs 10 = x10, vs 11 = x11 at *
      subst r9 r10 r11
      go_simp
      refine (discLocate_n (p := p) (hwW hI) (ha.next (h0.trans (hI.mono h0.size))) HN.out hS HP.out HS.out).mono ?_
      rintro e w3 ⟨rfl, hb⟩
      exact hK _ () _ (hI.trans (hb.mono hI.size)) hb rfl
    · intro vs g w2 hI hF hR K hK
      simp only [Facts, fill, Act.put, z1, z2, z3, z4, z5, Nat.reduceAdd] at hF hR hK ⊢
      obtain ⟨r9, -⟩ := hR
      generalize vs 9 = x9 at *
      subst r9
      go_simp
      exact hK _ () _ hI (Below.refl _ _) rfl
    · intro vs g w2 hI hF hR K hK
      simp only [Facts, fill, Act.put, z1, z2, z3, z4, z5, Nat.reduceAdd] at hF hR hK ⊢
      obtain ⟨r9, -⟩ := hR
      generalize vs 9 = x9 at *
      subst r9
      have k0 := (hI.cell (lt_of_cell kx0)).trans kx0
      have k1 := (hI.cell (lt_of_cell kx1)).trans kx1
      go_simp
      exact hK _ () _ hI (Below.refl _ _) rfl
    · intro vs g w2 hI hF hR K hK
      simp only [Facts, fill, Act.put, z1, z2, z3, z4, z5, Nat.reduceAdd] at hF hR hK ⊢
      obtain ⟨r9, r13, r14, -⟩ := hR
      generalize vs 9 = x9, vs 13 = x13, vs 14 = x14 at *
      subst r9 r13 r14
      go_simp
      refine (ref15Locate_any A c N l p s _ _ (ha.next (h0.trans (hI.mono h0.size))) HN.out hS HP.out HS.out).mono ?_
      rintro e w3 ⟨rfl, hb⟩
      exact hK _ () _ (hI.trans (hb.mono hI.size)) hb rfl
    · intro vs g w2 hI hF hR K hK
      simp only [Facts, fill, Act.put, z1, z2, z3, z4, z5, Nat.reduceAdd] at hF hR hK ⊢
      obtain ⟨r9, r12, r15, -⟩ := hR
      generalize vs 9 = x9, vs 12 = x12, vs 15 = x15 at *
      subst r9 r12 r15
      have hd := beq_self_eq_true s
      go_simp
      exact hK _ () _ hI (Below.refl _ _) rfl
    · intro vs g w2 hI hF hR K hK
      simp only [Facts, fill, Act.put, z1, z2, z3, z4, z5, Nat.reduceAdd] at hF hR hK ⊢
      obtain ⟨r9, r16, -⟩ := hR
      generalize vs 9 = x9, vs 16 = x16 at *
      subst r9 r16
      go_simp
      exact hK _ () _ hI (Below.refl _ _) rfl
    · intro vs g w2 hI hF hR K hK
      simp only [Facts, fill, Act.put, z1, z2, z3, z4, z5, Nat.reduceAdd] at hF hR hK ⊢
      obtain ⟨r17, -⟩ := hR
      generalize vs 17 = x17 at *
      subst r17
      go_simp
      exact hK _ () _ hI (Below.refl _ _) rfl
  case fin =>
    intro vs w2 hI hR
    have r18 := hR 18 (by decide)
    simp only [fill, Act.put, z1, z2, z3, z4, z5] at r18 ⊢
    clear hR
    generalize vs 18 = x18 at *
    subst r18
    refine NoPanic.normal ?_
    go_wp2
    go_ret
    exact ⟨rfl, h0.trans (hI.mono h0.size)⟩
def evL : List Ev := [⟨4, 0, 2⟩, ⟨6, 0, 0⟩]
theorem ev_3 : validDE 3 ++ locDE 3 = evL := rfl
theorem vE_no {n : Nat} (h : ¬ n = 3) : validDE n = [] := by unfold validDE; rw [if_neg h]
theorem ev_no {n : Nat} (h : ¬ n = 3) : validDE n ++ locDE n = [] := by unfold validDE locDE; rw [if_neg h, if_neg h]; rfl
theorem lit_evL (w : World) : EvsR (w.alloc (.cells #[.int .i64 4, .int .i64 0, .int .i64 2, .int .i64 6, .int .i64 0, .int .i64 0] 37)) (fun g => w.heap.size ≤ g) (some ⟨w.heap.size, 0, none⟩) evL := fun _ => by
  refine ⟨w.heap.size, 0, rfl, Nat.le_refl _, fun j x hx => ?_⟩
  match j, hx with
  | 0, hx => simp [evL] at hx; subst hx; simp [go_sem]
  | 1, hx => simp [evL] at hx; subst hx; simp [go_sem]
set_option maxHeartbeats 1000000 in
theorem law_discEvents (A : Option Addr) (c : Nat) (l : List Pt) (p : Pt) (w : World) (hw : Wts w) (ha : RowR w (fun _ => True) 2 ptC A l) (hS : SsP l) (hp : S p.x ∧ S p.y) :
    Calls Tryd.prog 4 #[.slice A l.length c, .agg #[.int .i64 p.x, .int .i64 p.y]] w fun e w' => e = .returned (.bool true) ∧ Below w.heap.size w w' := by
  obtain ⟨N, hN⟩ : ∃ N, N = l.length := ⟨_, rfl⟩
  rw [← hN]
  have hlow := ha.lowD
  obtain ⟨W, hW⟩ : ∃ W, W = w.alloc (.cells #[.int .i64 p.x, .int .i64 p.y] 24) := ⟨_, rfl⟩
  obtain ⟨bx, hbx⟩ : ∃ bx, bx = w.heap.size := ⟨_, rfl⟩
  have h0 : Below w.heap.size w W := by rw [hW]; exact (Below.refl _ _).alloc (Nat.le_refl _) _
  have kx0 : W.cell? ⟨bx, 0, none⟩ = some (.int .i64 p.x) := by rw [hW, hbx]; simp [go_sem]
  have kx1 : W.cell? ⟨bx, 1, none⟩ = some (.int .i64 p.y) := by rw [hW, hbx]; simp [go_sem]
  have hbW : bx < W.heap.size := lt_of_cell kx0
  have hwW : ∀ {w2 : World}, Below W.heap.size W w2 → Wts w2 := fun h => hw.below (h0.trans (h.mono h0.size))
  have HP := Lib.hid hp
  have HW := Lib.hid hW
  have HB := Lib.hid hbx
  clear hW hbx hp
  by_cases h3n : N = 3
  · subst h3n
    have HN := Lib.hid hN
    clear hN hwW
    go_enter Tryd.func4, Tryd.ntmps4
    go_upto_region 1 with (fail)
    rw [← HW.out, ← HB.out]
    go_wp2_with (fail)
    refine (tapeNew_any W).mono ?_
    rintro e w1 ⟨tb, rfl, ht, hb1⟩
    have h1 := h0.trans (hb1.mono h0.size)
    have hs0 := h0.size
    have hs1 := hb1.size
    have ht := ht.now
    have k0 := (hb1.cell (p := ⟨bx, 0, none⟩) hbW).trans kx0
    have k1 := (hb1.cell (p := ⟨bx, 1, none⟩) hbW).trans kx1
    go_wp2_with (fail)
    refine (discValid_c _ [] (fun g => W.heap.size ≤ g ∧ g < w1.heap.size) (fun b => b < w.heap.size) A 3 c l (validD l) w1 (fun W' hm => hw.below (hm.below h1 (fun g hg => by omega) h1.size)) ht.o (by simp) (hlow.next h1) (fun b hb h => by omega) HN.out hS rfl).mono ?_
    rintro e w3 ⟨rfl, ht3, hm3⟩
    have h3 := hm3.below h1 (fun g hg => by omega) h1.size
    rw [addT_some, List.nil_append] at ht3
    have hs3 := hm3.size
    have k0 := (hm3.cell (p := ⟨bx, 0, none⟩) (by show bx < w1.heap.size; omega) (fun h => by have : W.heap.size ≤ bx := h.1; omega)).trans k0
    have k1 := (hm3.cell (p := ⟨bx, 1, none⟩) (by show bx < w1.heap.size; omega) (fun h => by have : W.heap.size ≤ bx := h.1; omega)).trans k1
    clear ht
    go_wp2_with (fail)
    refine (discLocate_c _ (validDE 3) (fun g => (W.heap.size ≤ g ∧ g < w1.heap.size) ∨ w1.heap.size ≤ g) (fun b => b < w.heap.size) A 3 c l p (locD l p) w3 (fun W' hm => hw.below (hm.below h3 (fun g hg => by omega) h3.size)) ht3 (by decide) (hlow.next h3) (fun b hb h => by omega) HN.out hS HP.out rfl).mono ?_
    rintro e w4 ⟨rfl, ht4, hm4⟩
    have h4 := hm4.below h3 (fun g hg => by omega) h3.size
    rw [addT_some, ev_3] at ht4
    have hs4 := hm4.size
    clear ht3 hm3 hm4 k0 k1 kx0 kx1
    go_wp2_with (fail)
    obtain ⟨w5, hw5⟩ : ∃ w5, w5 = w4.alloc (.cells #[.int .i64 4, .int .i64 0, .int .i64 2, .int .i64 6, .int .i64 0, .int .i64 0] 37) := ⟨_, rfl⟩
    have hb45 : Below w4.heap.size w4 w5 := by rw [hw5]; exact (Below.refl _ _).alloc (Nat.le_refl _) _
    have hev5 : EvsR w5 (fun g => w4.heap.size ≤ g) (some ⟨w4.heap.size, 0, none⟩) evL := by rw [hw5]; exact lit_evL w4
    have h5 := h4.trans (hb45.mono h4.size)
    have ht5 := ht4.next hb45
    rw [← hw5]
    clear hw5
    refine (alive15_any _ (hw.below h5)).mono ?_
    rintro e w6 ⟨rfl, hb6⟩
    have h6 := h5.trans (hb6.mono h5.size)
    have ht6 := ht5.next hb6
    have hev6 := hev5.next hb6
    go_wp2_with (fail)
    refine (tapeEvents_any _ evL _ w6 ht6 (by decide)).mono ?_
    rintro e w7 ⟨A7, c7, rfl, _, hev7, hb7⟩
    have h7 := h6.trans (hb7.mono h6.size)
    go_wp2_with (fail)
    refine (ref10Same_r A7 _ c7 _ evL evL _ _ w7 true hev7 (hev6.next hb7) (by decide) (by decide) (by simp)).mono ?_
    rintro e w8 ⟨rfl, n8, rfl⟩
    go_wp2
    go_ret
    exact ⟨rfl, below_drewN' h7 n8⟩
  · have HN := Lib.hid hN
    have hd : ((N : Int) == 3) = false := by rw [beq_eq_false_iff_ne]; omega
    clear hN hwW
    go_enter Tryd.func4, Tryd.ntmps4
    go_upto_region 1 with (fail)
    rw [← HW.out, ← HB.out]
    go_wp2_with (fail)
    refine (tapeNew_any W).mono ?_
    rintro e w1 ⟨tb, rfl, ht, hb1⟩
    have h1 := h0.trans (hb1.mono h0.size)
    have hs0 := h0.size
    have hs1 := hb1.size
    have ht := ht.now
    have k0 := (hb1.cell (p := ⟨bx, 0, none⟩) hbW).trans kx0
    have k1 := (hb1.cell (p := ⟨bx, 1, none⟩) hbW).trans kx1
    go_wp2_with (fail)
    refine (discValid_c _ [] (fun g => W.heap.size ≤ g ∧ g < w1.heap.size) (fun b => b < w.heap.size) A N c l (validD l) w1 (fun W' hm => hw.below (hm.below h1 (fun g hg => by omega) h1.size)) ht.o (by simp) (hlow.next h1) (fun b hb h => by omega) HN.out hS rfl).mono ?_
    rintro e w3 ⟨rfl, ht3, hm3⟩
    have h3 := hm3.below h1 (fun g hg => by omega) h1.size
    rw [addT_some, List.nil_append] at ht3
    have hs3 := hm3.size
    have k0 := (hm3.cell (p := ⟨bx, 0, none⟩) (by show bx < w1.heap.size; omega) (fun h => by have : W.heap.size ≤ bx := h.1; omega)).trans k0
    have k1 := (hm3.cell (p := ⟨bx, 1, none⟩) (by show bx < w1.heap.size; omega) (fun h => by have : W.heap.size ≤ bx := h.1; omega)).trans k1
    clear ht
    go_wp2_with (fail)
    refine (discLocate_c _ (validDE N) (fun g => (W.heap.size ≤ g ∧ g < w1.heap.size) ∨ w1.heap.size ≤ g) (fun b => b < w.heap.size) A N c l p (locD l p) w3 (fun W' hm => hw.below (hm.below h3 (fun g hg => by omega) h3.size)) ht3 (by rw [vE_no h3n]; decide) (hlow.next h3) (fun b hb h => by omega) HN.out hS HP.out rfl).mono ?_
    rintro e w4 ⟨rfl, ht4, hm4⟩
    have h4 := hm4.below h3 (fun g hg => by omega) h3.size
    rw [addT_some, ev_no h3n] at ht4
    have hs4 := hm4.size
    clear ht3 hm3 hm4 k0 k1 kx0 kx1
    go_wp2_with (fail)
    have h5 := h4
    have ht5 := ht4
    have hev5 : EvsR w4 (fun _ => True) none ([] : List Ev) := EvsR.nil_ _ _ _
    refine (alive15_any _ (hw.below h5)).mono ?_
    rintro e w6 ⟨rfl, hb6⟩
    have h6 := h5.trans (hb6.mono h5.size)
    have ht6 := ht5.next hb6
    have hev6 := hev5.next hb6
    go_wp2_with (fail)
    refine (tapeEvents_any _ ([] : List Ev) _ w6 ht6 (by decide)).mono ?_
    rintro e w7 ⟨A7, c7, rfl, _, hev7, hb7⟩
    have h7 := h6.trans (hb7.mono h6.size)
    go_wp2_with (fail)
    refine (ref10Same_r A7 _ c7 _ ([] : List Ev) ([] : List Ev) _ _ w7 true hev7 (hev6.next hb7) (by decide) (by decide) (by simp)).mono ?_
    rintro e w8 ⟨rfl, n8, rfl⟩
    go_wp2
    go_ret
    exact ⟨rfl, below_drewN' h7 n8⟩
theorem ss3 {A B C : Pt} (hA : S A.x ∧ S A.y) (hB : S B.x ∧ S B.y) (hC : S C.x ∧ S C.y) : SsP [A, B, C] := fun y hy => by
  simp only [List.mem_cons, List.not_mem_nil, or_false] at hy
  rcases hy with rfl | rfl | rfl
  · exact hA
  · exact hB
  · exact hC
theorem order_v1 (A B C : Pt) : validD [B, A, C] = validD [A, B, C] := by
  show (true && (sgnP B A C != 0)) = (true && (sgnP A B C != 0))
  rw [sgn_swap]
  congr 1
  rcases sgn_in A B C with h | h | h <;> rw [h] <;> rfl
theorem order_v2 (A B C : Pt) : validD [B, C, A] = validD [A, B, C] := by
  show (true && (sgnP B C A != 0)) = (true && (sgnP A B C != 0))
  rw [sgn_cyc]
theorem order_l1 (A B C p : Pt) : locD [B, A, C] p = locD [A, B, C] p := sideC_swap A B C p
theorem order_l2 (A B C p : Pt) : locD [B, C, A] p = locD [A, B, C] p := by
  show sideC B C A p = sideC A B C p
  rw [← sideC_rot B C A p]
set_option maxHeartbeats 1000000 in
theorem law_discOrder (A B C p : Pt) (w : World) (hw : Wts w) (hA : S A.x ∧ S A.y) (hB : S B.x ∧ S B.y) (hC : S C.x ∧ S C.y) (hp : S p.x ∧ S p.y) :
    Calls Tryd.prog 5 #[.agg #[.int .i64 A.x, .int .i64 A.y, .int .i64 B.x, .int .i64 B.y, .int .i64 C.x, .int .i64 C.y], .agg #[.int .i64 p.x, .int .i64 p.y]] w fun e w' => e = .returned (.bool true) ∧ Below w.heap.size w w' := by
  obtain ⟨r, hr⟩ : ∃ r, validD [A, B, C] = r := ⟨_, rfl⟩
  obtain ⟨s, hs⟩ : ∃ s, locD [A, B, C] p = s := ⟨_, rfl⟩
  have HRA := Lib.hid hr
  have HLA := Lib.hid hs
  have HRB := Lib.hid ((order_v1 A B C).trans hr)
  have HRC := Lib.hid ((order_v2 A B C).trans hr)
  have HLB := Lib.hid ((order_l1 A B C p).trans hs)
  have HLC := Lib.hid ((order_l2 A B C p).trans hs)
  have HSA := Lib.hid (ss3 hA hB hC)
  have HSB := Lib.hid (ss3 hB hA hC)
  have HSC := Lib.hid (ss3 hB hC hA)
  have HP := Lib.hid hp
  obtain ⟨W0, hW0⟩ : ∃ W0, W0 = (w.alloc (.cells #[.int .i64 A.x, .int .i64 A.y, .int .i64 B.x, .int .i64 B.y, .int .i64 C.x, .int .i64 C.y] 40)).alloc (.cells #[.int .i64 p.x, .int .i64 p.y] 24) := ⟨_, rfl⟩
  obtain ⟨bv, hbv⟩ : ∃ b, b = w.heap.size := ⟨_, rfl⟩
  obtain ⟨bx, hbx⟩ : ∃ b, b = w.heap.size + 1 := ⟨_, rfl⟩
  have h00 : Below w.heap.size w W0 := by rw [hW0]; exact ((Below.refl _ _).alloc (Nat.le_refl _) _).alloc (by simp) _
  have v0_0 : W0.cell? ⟨bv, 0, none⟩ = some (.int .i64 A.x) := by rw [hW0, hbv]; simp [go_sem]
  have v0_1 : W0.cell? ⟨bv, 1, none⟩ = some (.int .i64 A.y) := by rw [hW0, hbv]; simp [go_sem]
  have v0_2 : W0.cell? ⟨bv, 2, none⟩ = some (.int .i64 B.x) := by rw [hW0, hbv]; simp [go_sem]
  have v0_3 : W0.cell? ⟨bv, 3, none⟩ = some (.int .i64 B.y) := by rw [hW0, hbv]; simp [go_sem]
  have v0_4 : W0.cell? ⟨bv, 4, none⟩ = some (.int .i64 C.x) := by rw [hW0, hbv]; simp [go_sem]
  have v0_5 : W0.cell? ⟨bv, 5, none⟩ = some (.int .i64 C.y) := by rw [hW0, hbv]; simp [go_sem]
  have kp0 : W0.cell? ⟨bx, 0, none⟩ = some (.int .i64 p.x) := by rw [hW0, hbx]; simp [go_sem]
  have kp1 : W0.cell? ⟨bx, 1, none⟩ = some (.int .i64 p.y) := by rw [hW0, hbx]; simp [go_sem]
  obtain ⟨W1, hW1⟩ : ∃ W1, W1 = W0.alloc (.cells #[.int .i64 A.x, .int .i64 A.y, .int .i64 B.x, .int .i64 B.y, .int .i64 C.x, .int .i64 C.y] 24) := ⟨_, rfl⟩
  obtain ⟨W2, hW2⟩ : ∃ W2, W2 = W1.alloc (.cells #[.int .i64 B.x, .int .i64 B.y, .int .i64 A.x, .int .i64 A.y, .int .i64 C.x, .int .i64 C.y] 24) := ⟨_, rfl⟩
  obtain ⟨W, hW⟩ : ∃ W, W = W2.alloc (.cells #[.int .i64 B.x, .int .i64 B.y, .int .i64 C.x, .int .i64 C.y, .int .i64 A.x, .int .i64 A.y] 24) := ⟨_, rfl⟩
  obtain ⟨ba, hba⟩ : ∃ b, b = W0.heap.size := ⟨_, rfl⟩
  obtain ⟨bb, hbb⟩ : ∃ b, b = W1.heap.size := ⟨_, rfl⟩
  obtain ⟨bc, hbc⟩ : ∃ b, b = W2.heap.size := ⟨_, rfl⟩
  have hb1 : Below W0.heap.size W0 W1 := by rw [hW1]; exact (Below.refl _ _).alloc (Nat.le_refl _) _
  have hb2 : Below W1.heap.size W1 W2 := by rw [hW2]; exact (Below.refl _ _).alloc (Nat.le_refl _) _
  have hb3 : Below W2.heap.size W2 W := by rw [hW]; exact (Below.refl _ _).alloc (Nat.le_refl _) _
  have hrA1 : RowR W1 (fun g => W0.heap.size ≤ g) 2 ptC (some ⟨ba, 0, none⟩) [A, B, C] := by rw [hW1, hba]; exact row_lit (C := ptC) (fun _ => rfl) [A, B, C]
  have hrB1 : RowR W2 (fun g => W1.heap.size ≤ g) 2 ptC (some ⟨bb, 0, none⟩) [B, A, C] := by rw [hW2, hbb]; exact row_lit (C := ptC) (fun _ => rfl) [B, A, C]
  have hrC : RowR W (fun g => W2.heap.size ≤ g) 2 ptC (some ⟨bc, 0, none⟩) [B, C, A] := by rw [hW, hbc]; exact row_lit (C := ptC) (fun _ => rfl) [B, C, A]
  have hrA := (hrA1.next hb2).next hb3
  have hrB := hrB1.next hb3
  have hb0 := hb1.trans ((hb2.trans (hb3.mono hb2.size)).mono hb1.size)
  have h0 := h00.trans (hb0.mono h00.size)
  have kx0 := (hb0.cell (p := ⟨bx, 0, none⟩) (lt_of_cell kp0)).trans kp0
  have kx1 := (hb0.cell (p := ⟨bx, 1, none⟩) (lt_of_cell kp1)).trans kp1
  have hwW : ∀ {w2 : World}, Below W.heap.size W w2 → Wts w2 := fun h => hw.below (h0.trans (h.mono h0.size))
  have v1_0 := (hb1.cell (p := ⟨bv, 0, none⟩) (lt_of_cell v0_0)).trans v0_0
  have v1_1 := (hb1.cell (p := ⟨bv, 1, none⟩) (lt_of_cell v0_1)).trans v0_1
  have v1_2 := (hb1.cell (p := ⟨bv, 2, none⟩) (lt_of_cell v0_2)).trans v0_2
  have v1_3 := (hb1.cell (p := ⟨bv, 3, none⟩) (lt_of_cell v0_3)).trans v0_3
  have v1_4 := (hb1.cell (p := ⟨bv, 4, none⟩) (lt_of_cell v0_4)).trans v0_4
  have v1_5 := (hb1.cell (p := ⟨bv, 5, none⟩) (lt_of_cell v0_5)).trans v0_5
  have v2_0 := (hb2.cell (p := ⟨bv, 0, none⟩) (lt_of_cell v1_0)).trans v1_0
  have v2_1 := (hb2.cell (p := ⟨bv, 1, none⟩) (lt_of_cell v1_1)).trans v1_1
  have v2_2 := (hb2.cell (p := ⟨bv, 2, none⟩) (lt_of_cell v1_2)).trans v1_2
  have v2_3 := (hb2.cell (p := ⟨bv, 3, none⟩) (lt_of_cell v1_3)).trans v1_3
  have v2_4 := (hb2.cell (p := ⟨bv, 4, none⟩) (lt_of_cell v1_4)).trans v1_4
  have v2_5 := (hb2.cell (p := ⟨bv, 5, none⟩) (lt_of_cell v1_5)).trans v1_5
  have HW0 := Lib.hid hW0
  have HW1 := Lib.hid hW1
  have HW2 := Lib.hid hW2
  have HW := Lib.hid hW
  have Hbv := Lib.hid hbv
  have Hbx := Lib.hid hbx
  have Hba := Lib.hid hba
  have Hbb := Lib.hid hbb
  have Hbc := Lib.hid hbc
  clear hr hs hA hB hC hp hW0 hW1 hW2 hW hbv hbx hba hbb hbc hrA1 hrB1 hb1 hb2 hb3
  go_enter Tryd.func5, Tryd.ntmps5
  go_upto_region 1 with (fail)
  rw [← HW0.out, ← Hbx.out, ← Hbv.out]
  go_upto_region 2 with (fail)
  rw [← HW1.out, ← Hba.out]
  clear v0_0 v0_1 v0_2 v0_3 v0_4 v0_5
  go_upto_region 3 with (fail)
  rw [← HW2.out, ← Hbb.out]
  clear v1_0 v1_1 v1_2 v1_3 v1_4 v1_5
  go_upto_region 4 with (fail)
  rw [← HW.out, ← Hbc.out]
  clear v2_0 v2_1 v2_2 v2_3 v2_4 v2_5 kp0 kp1 hb0
  refine dir_plain (by kernel_rfl) 7 [[], [(31, 0)], [], [], [(33, 2), (34, 3)], [(32, 1)], [(35, 4)]] [(31, 0), (32, 1), (33, 2), (34, 3), (35, 4), (8, 5), (9, 6)] [
      (fun v _ => v = .slice (some ⟨ba, 0, none⟩) 3 3),
      (fun v _ => v = .int .u64 (mk r)),
      (fun v _ => v = .slice (some ⟨ba, 0, none⟩) 3 3),
      (fun v _ => v = .agg #[.int .i64 p.x, .int .i64 p.y]),
      (fun v _ => v = .int .i64 s),
      (fun v _ => v = .int .u64 (mk r)),
      (fun v _ => v = .int .i64 s)
    ] (by kernel_rfl) (by kernel_rfl) (by kernel_rfl) (by decide) ⟨dstab_eq, dstab_eq, dstab_eq, dstab_eq, dstab_eq, dstab_eq, dstab_eq, trivial⟩ ?steps ?fin
  case steps =>
    refine ⟨?_, ?_, ?_, ?_, ?_, ?_, ?_, trivial⟩
    · intro vs g w2 hI hF hR K hK
      simp only [Facts, fill, Act.put, z1, z2, z3, z4, z5, Nat.reduceAdd] at hF hR hK ⊢
      go_simp
      exact hK _ () _ hI (Below.refl _ _) rfl
    · intro vs g w2 hI hF hR K hK
      simp only [Facts, fill, Act.put, z1, z2, z3, z4, z5, Nat.reduceAdd] at hF hR hK ⊢
      obtain ⟨r0, -⟩ := hR
      generalize vs 0 = x0 at *
      subst r0
      go_simp
      refine (discValid_n (hwW hI) (hrA.next hI) rfl HSA.out HRA.out).mono ?_
      rintro e w3 ⟨rfl, hb⟩
      exact hK _ () _ (hI.trans (hb.mono hI.size)) hb rfl
    · intro vs g w2 hI hF hR K hK
      simp only [Facts, fill, Act.put, z1, z2, z3, z4, z5, Nat.reduceAdd] at hF hR hK ⊢
      go_simp
      exact hK _ () _ hI (Below.refl _ _) rfl
    · intro vs g w2 hI hF hR K hK
      simp only [Facts, fill, Act.put, z1, z2, z3, z4, z5, Nat.reduceAdd] at hF hR hK ⊢
      have k0 := (hI.cell (lt_of_cell kx0)).trans kx0
      have k1 := (hI.cell (lt_of_cell kx1)).trans kx1
      go_simp
      exact hK _ () _ hI (Below.refl _ _) rfl
    · intro vs g w2 hI hF hR K hK
      simp only [Facts, fill, Act.put, z1, z2, z3, z4, z5, Nat.reduceAdd] at hF hR hK ⊢
      obtain ⟨r2, r3, -⟩ := hR
      generalize vs 2 = x2, vs 3 = x3 at *
      subst r2 r3
      go_simp
      refine (discLocate_n (p := p) (hwW hI) (hrA.next hI) rfl HSA.out HP.out HLA.out).mono ?_
      rintro e w3 ⟨rfl, hb⟩
      exact hK _ () _ (hI.trans (hb.mono hI.size)) hb rfl
    · intro vs g w2 hI hF hR K hK
      simp only [Facts, fill, Act.put, z1, z2, z3, z4, z5, Nat.reduceAdd] at hF hR hK ⊢
      obtain ⟨r1, -⟩ := hR
      generalize vs 1 = x1 at *
      subst r1
      go_simp
      exact hK _ () _ hI (Below.refl _ _) rfl
    · intro vs g w2 hI hF hR K hK
      simp only [Facts, fill, Act.put, z1, z2, z3, z4, z5, Nat.reduceAdd] at hF hR hK ⊢
      obtain ⟨r4, -⟩ := hR
      generalize vs 4 = x4 at *
      subst r4
      go_simp
      exact hK _ () _ hI (Below.refl _ _) rfl
  case fin =>
    intro vs w2 hI hR
    have r5 := hR 5 (by decide)
    have r6 := hR 6 (by decide)
    simp only [fill, Act.put, z1, z2, z3, z4, z5] at r5 r6 ⊢
    clear hR
    generalize vs 5 = x5 at *
    generalize vs 6 = x6 at *
    subst r5 r6
    refine NoPanic.normal ?_
    have hd1 : (mk r == mk r) = true := beq_self_eq_true _
    have hd2 : (s == s) = true := beq_self_eq_true _
    go_wp2_with (fail)
    refine (alive15_any _ (hwW hI)).mono ?_
    rintro e w3 ⟨rfl, hb3⟩
    have hI := hI.trans (hb3.mono hI.size)
    go_wp2_with (fail)
    refine (discValid_n (l := [B, A, C]) (hwW hI) (hrB.next hI) rfl HSB.out HRB.out).mono ?_
    rintro e w4 ⟨rfl, hb4⟩
    have hI := hI.trans (hb4.mono hI.size)
    go_wp2_with (fail)
    refine (discValid_n (l := [B, C, A]) (hwW hI) (hrC.next hI) rfl HSC.out HRC.out).mono ?_
    rintro e w5 ⟨rfl, hb5⟩
    have hI := hI.trans (hb5.mono hI.size)
    have d0 := (hI.cell (p := ⟨bx, 0, none⟩) (lt_of_cell kx0)).trans kx0
    have d1 := (hI.cell (p := ⟨bx, 1, none⟩) (lt_of_cell kx1)).trans kx1
    go_wp2_with (fail)
    refine (discLocate_n (l := [B, A, C]) (p := p) (hwW hI) (hrB.next hI) rfl HSB.out HP.out HLB.out).mono ?_
    rintro e w6 ⟨rfl, hb6⟩
    have hI := hI.trans (hb6.mono hI.size)
    clear d0 d1
    have d0 := (hI.cell (p := ⟨bx, 0, none⟩) (lt_of_cell kx0)).trans kx0
    have d1 := (hI.cell (p := ⟨bx, 1, none⟩) (lt_of_cell kx1)).trans kx1
    go_wp2_with (fail)
    refine (discLocate_n (l := [B, C, A]) (p := p) (hwW hI) (hrC.next hI) rfl HSC.out HP.out HLC.out).mono ?_
    rintro e w7 ⟨rfl, hb7⟩
    have hI := hI.trans (hb7.mono hI.size)
    go_wp2
    go_ret
    exact ⟨rfl, h0.trans (hI.mono h0.size)⟩
end Go.Proofs.YtehnpmkolabiaaaDoor
