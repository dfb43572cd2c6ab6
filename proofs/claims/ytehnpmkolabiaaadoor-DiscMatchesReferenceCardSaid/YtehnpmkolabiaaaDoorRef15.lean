/-
  The reference of layer 15. (Written by law15.py.)
-/
import Derived.Test.YtehnpmkolabiaaaDoorDiscC
import Derived.BigQuiet
import Derived.Deep.QuietTactic
import Derived.Deep.RegionLaw
import Derived.Laws.StructEq
namespace Go.Proofs.YtehnpmkolabiaaaDoor
open Go.RowKit Go.Maps
set_option maxRecDepth 100000
set_option linter.unusedVariables false
set_option linter.unusedSimpArgs false

theorem ref15Valid_any (A : Option Addr) (c N : Nat) (l : List Pt) (z : Bool) (T : Nat → Prop) (w : World) (ha : RowR w T 2 ptC A l) (hN : N = l.length) (hS : SsP l) (hr : validD l = z) :
    Calls Tryd.prog 12 #[.slice A N c] w fun e w' => e = .returned (.bool z) ∧ Below w.heap.size w w' := by
  by_cases h3 : N = 3
  · subst h3
    have h3 : l.length = 3 := hN.symm
    obtain ⟨b, o, rfl, hz1, hz2, hz3⟩ := ha.pt_ (k := 0) (by omega)
    have p01 := ha.pt2 (k := 0) (by omega)
    have q01 := ha.pt2 (k := 1) (by omega)
    have x01 := ha.pt2 (k := 2) (by omega)
    rw [Nat.zero_mul, Nat.add_zero] at p01
    rw [Nat.one_mul, show o + 2 + 1 = o + 3 from rfl] at q01
    rw [show o + 2 * 2 = o + 4 from rfl, show o + 4 + 1 = o + 5 from rfl] at x01
    obtain ⟨p0, p1⟩ := p01
    obtain ⟨q0, q1⟩ := q01
    obtain ⟨x0, x1⟩ := x01
    have HP0 := Lib.hid (hS.ss (k := 0) (by omega))
    have HQ0 := Lib.hid (hS.ss (k := 1) (by omega))
    have HX0 := Lib.hid (hS.ss (k := 2) (by omega))
    obtain ⟨r, hrr⟩ : ∃ r, triS l = r := ⟨_, rfl⟩
    have hz : (r != 0) = z := by rw [← hr, validD_3 h3, hrr]
    have HR : Hid (sgnP (Go.Proofs.YtehnpmkolabiaaaDoor.at_ l 0) (Go.Proofs.YtehnpmkolabiaaaDoor.at_ l 1) (Go.Proofs.YtehnpmkolabiaaaDoor.at_ l 2) = r) := Lib.hid hrr
    generalize Go.Proofs.YtehnpmkolabiaaaDoor.at_ l 0 = P at *
    generalize Go.Proofs.YtehnpmkolabiaaaDoor.at_ l 1 = Q at *
    generalize Go.Proofs.YtehnpmkolabiaaaDoor.at_ l 2 = X at *
    have HP := HP0
    have HQ := HQ0
    have HX := HX0
    clear hr hrr ha hS hN h3 HP0 HQ0 HX0 hz1 hz2 hz3
    go_enter Tryd.func12, Tryd.ntmps12
    go_upto_region 1 with (fail)
    refine dir_plain (by kernel_rfl) 17 [[], [(3, 0)], [(4, 1)], [(5, 2)], [(6, 3)], [(6, 3), (7, 4)], [(6, 3), (8, 5)], [(6, 3)], [(6, 3), (10, 7)], [(6, 3), (11, 8)], [(6, 3)], [(6, 3), (13, 10)], [(6, 3), (14, 11)], [(6, 3), (9, 6), (12, 9), (15, 12)], [(6, 3), (16, 13)], [(6, 3), (17, 14)], [(18, 15)]] [(3, 0), (4, 1), (5, 2), (6, 3), (7, 4), (8, 5), (9, 6), (10, 7), (11, 8), (12, 9), (13, 10), (14, 11), (15, 12), (16, 13), (17, 14), (18, 15), (2, 16)] [
        (fun v _ => v = .slice (some ⟨b, o, none⟩) 3 c),
        (fun v _ => v = .int .i64 3),
        (fun v _ => v = .bool true),
        (fun v _ => v = .bool true),
        (fun v _ => v = .slice (some ⟨b, o, none⟩) 3 c),
        (fun v _ => v = .pointer (some ⟨b, o, none⟩)),
        (fun v _ => v = .agg #[.int .i64 P.x, .int .i64 P.y]),
        (fun v _ => v = .slice (some ⟨b, o, none⟩) 3 c),
        (fun v _ => v = .pointer (some ⟨b, (o + 2), none⟩)),
        (fun v _ => v = .agg #[.int .i64 Q.x, .int .i64 Q.y]),
        (fun v _ => v = .slice (some ⟨b, o, none⟩) 3 c),
        (fun v _ => v = .pointer (some ⟨b, (o + 4), none⟩)),
        (fun v _ => v = .agg #[.int .i64 X.x, .int .i64 X.y]),
        (fun v _ => v = .int .i64 r),
        (fun v _ => v = .bool z),
        (fun v _ => v = .bool z),
        (fun v _ => v = .bool z)
      ] (by kernel_rfl) (by kernel_rfl) (by kernel_rfl) (by decide) ⟨dstab_eq, dstab_eq, dstab_eq, dstab_eq, dstab_eq, dstab_eq, dstab_eq, dstab_eq, dstab_eq, dstab_eq, dstab_eq, dstab_eq, dstab_eq, dstab_eq, dstab_eq, dstab_eq, dstab_eq, trivial⟩ ?steps ?fin
    case steps =>
      refine ⟨?_, ?_, ?_, ?_, ?_, ?_, ?_, ?_, ?_, ?_, ?_, ?_, ?_, ?_, ?_, ?_, ?_, trivial⟩
      · intro vs g w2 hI hF hR K hK
        simp only [Facts, fill, Act.put, z1, z2, z3, z4, z5, Nat.reduceAdd] at hF hR hK ⊢
        go_simp
        exact hK _ () _ hI (Below.refl _ _) rfl
      · intro vs g w2 hI hF hR K hK
        simp only [Facts, fill, Act.put, z1, z2, z3, z4, z5, Nat.reduceAdd] at hF hR hK ⊢
        obtain ⟨r0, -⟩ := hR
        generalize vs 0 = x0 at *
        subst r0
        go_simp
        exact hK _ () _ hI (Below.refl _ _) rfl
      · intro vs g w2 hI hF hR K hK
        simp only [Facts, fill, Act.put, z1, z2, z3, z4, z5, Nat.reduceAdd] at hF hR hK ⊢
        obtain ⟨r1, -⟩ := hR
        generalize vs 1 = x1 at *
        subst r1
        go_simp
        exact hK _ () _ hI (Below.refl _ _) rfl
      · intro vs g w2 hI hF hR K hK
        simp only [Facts, fill, Act.put, z1, z2, z3, z4, z5, Nat.reduceAdd] at hF hR hK ⊢
        obtain ⟨r2, -⟩ := hR
        generalize vs 2 = x2 at *
        subst r2
        go_simp
        exact hK _ () _ hI (Below.refl _ _) rfl
      · intro vs g w2 hI hF hR K hK
        simp only [Facts, fill, Act.put, z1, z2, z3, z4, z5, Nat.reduceAdd] at hF hR hK ⊢
        obtain ⟨r3, -⟩ := hR
        generalize vs 3 = x3 at *
        subst r3
        go_simp
        exact hK _ () _ hI (Below.refl _ _) rfl
      · intro vs g w2 hI hF hR K hK
        simp only [Facts, fill, Act.put, z1, z2, z3, z4, z5, Nat.reduceAdd] at hF hR hK ⊢
        obtain ⟨r3, r4, -⟩ := hR
        generalize vs 3 = x3, vs 4 = x4 at *
        subst r3 r4
        go_simp
        exact hK _ () _ hI (Below.refl _ _) rfl
      · intro vs g w2 hI hF hR K hK
        simp only [Facts, fill, Act.put, z1, z2, z3, z4, z5, Nat.reduceAdd] at hF hR hK ⊢
        obtain ⟨r3, r5, -⟩ := hR
        generalize vs 3 = x3, vs 5 = x5 at *
        subst r3 r5
        have k0 := (hI.cell (lt_of_cell p0)).trans p0
        have k1 := (hI.cell (lt_of_cell p1)).trans p1
        go_simp
        exact hK _ () _ hI (Below.refl _ _) rfl
      · intro vs g w2 hI hF hR K hK
        simp only [Facts, fill, Act.put, z1, z2, z3, z4, z5, Nat.reduceAdd] at hF hR hK ⊢
        obtain ⟨r3, -⟩ := hR
        generalize vs 3 = x3 at *
        subst r3
        go_simp
        exact hK _ () _ hI (Below.refl _ _) rfl
      · intro vs g w2 hI hF hR K hK
        simp only [Facts, fill, Act.put, z1, z2, z3, z4, z5, Nat.reduceAdd] at hF hR hK ⊢
        obtain ⟨r3, r7, -⟩ := hR
        generalize vs 3 = x3, vs 7 = x7 at *
        subst r3 r7
        go_simp
        exact hK _ () _ hI (Below.refl _ _) rfl
      · intro vs g w2 hI hF hR K hK
        simp only [Facts, fill, Act.put, z1, z2, z3, z4, z5, Nat.reduceAdd] at hF hR hK ⊢
        obtain ⟨r3, r8, -⟩ := hR
        generalize vs 3 = x3, vs 8 = x8 at *
        subst r3 r8
        have k0 := (hI.cell (lt_of_cell q0)).trans q0
        have k1 := (hI.cell (lt_of_cell q1)).trans q1
        go_simp
        exact hK _ () _ hI (Below.refl _ _) rfl
      · intro vs g w2 hI hF hR K hK
        simp only [Facts, fill, Act.put, z1, z2, z3, z4, z5, Nat.reduceAdd] at hF hR hK ⊢
        obtain ⟨r3, -⟩ := hR
        generalize vs 3 = x3 at *
        subst r3
        go_simp
        exact hK _ () _ hI (Below.refl _ _) rfl
      · intro vs g w2 hI hF hR K hK
        simp only [Facts, fill, Act.put, z1, z2, z3, z4, z5, Nat.reduceAdd] at hF hR hK ⊢
        obtain ⟨r3, r10, -⟩ := hR
        generalize vs 3 = x3, vs 10 = x10 at *
        subst r3 r10
        go_simp
        exact hK _ () _ hI (Below.refl _ _) rfl
      · intro vs g w2 hI hF hR K hK
        simp only [Facts, fill, Act.put, z1, z2, z3, z4, z5, Nat.reduceAdd] at hF hR hK ⊢
        obtain ⟨r3, r11, -⟩ := hR
        generalize vs 3 = x3, vs 11 = x11 at *
        subst r3 r11
        have k0 := (hI.cell (lt_of_cell x0)).trans x0
        have k1 := (hI.cell (lt_of_cell x1)).trans x1
        go_simp
        exact hK _ () _ hI (Below.refl _ _) rfl
      · intro vs g w2 hI hF hR K hK
        simp only [Facts, fill, Act.put, z1, z2, z3, z4, z5, Nat.reduceAdd] at hF hR hK ⊢
        obtain ⟨r3, r6, r9, r12, -⟩ := hR
        generalize vs 3 = x3, vs 6 = x6, vs 9 = x9, vs 12 = x12 at *
        subst r3 r6 r9 r12
        go_simp
        refine (ref6Sign_d P Q X w2 HP.out HQ.out HX.out r HR.out).mono ?_
        rintro e w3 ⟨rfl, hb⟩
        exact hK _ () _ (hI.trans (hb.mono hI.size)) hb rfl
      · intro vs g w2 hI hF hR K hK
        simp only [Facts, fill, Act.put, z1, z2, z3, z4, z5, Nat.reduceAdd] at hF hR hK ⊢
        obtain ⟨r3, r13, -⟩ := hR
        generalize vs 3 = x3, vs 13 = x13 at *
        subst r3 r13
        have HM1 := hz
        go_simp
        exact hK _ () _ hI (Below.refl _ _) rfl
      · intro vs g w2 hI hF hR K hK
        simp only [Facts, fill, Act.put, z1, z2, z3, z4, z5, Nat.reduceAdd] at hF hR hK ⊢
        obtain ⟨r3, r14, -⟩ := hR
        generalize vs 3 = x3, vs 14 = x14 at *
        subst r3 r14
        go_simp
        exact hK _ () _ hI (Below.refl _ _) rfl
      · intro vs g w2 hI hF hR K hK
        simp only [Facts, fill, Act.put, z1, z2, z3, z4, z5, Nat.reduceAdd] at hF hR hK ⊢
        obtain ⟨r15, -⟩ := hR
        generalize vs 15 = x15 at *
        subst r15
        go_simp
        exact hK _ () _ hI (Below.refl _ _) rfl
    case fin =>
      intro vs w2 hI hR
      have r16 := hR 16 (by decide)
      simp only [fill, Act.put, z1, z2, z3, z4, z5] at r16 ⊢
      clear hR
      generalize vs 16 = x16 at *
      subst r16
      refine NoPanic.normal ?_
      go_wp2
      go_ret
      exact ⟨rfl, hI⟩
  · have hd : ((N : Int) == 3) = false := by rw [beq_eq_false_iff_ne]; omega
    have HR := Lib.hid (show z = false by rw [← hr]; exact validD_no (by omega))
    clear hr hN ha hS h3
    go_enter Tryd.func12, Tryd.ntmps12
    go_wp2
    go_quiet (fail)
    go_wp2
    go_ret
    exact ⟨by rw [HR.out]; rfl, by simpa using below_drewN' (Below.refl w.heap.size w) _⟩
theorem ref15Locate_any (A : Option Addr) (c N : Nat) (l : List Pt) (Y : Pt) (r : Int) (T : Nat → Prop) (w : World) (ha : RowR w T 2 ptC A l) (hN : N = l.length) (hS : SsP l) (hY : S Y.x ∧ S Y.y) (hr : locD l Y = r) :
    Calls Tryd.prog 14 #[.slice A N c, .agg #[.int .i64 Y.x, .int .i64 Y.y]] w fun e w' => e = .returned (.int .i64 r) ∧ Below w.heap.size w w' := by
  obtain ⟨W, hW⟩ : ∃ W, W = w.alloc (.cells #[.int .i64 Y.x, .int .i64 Y.y] 24) := ⟨_, rfl⟩
  obtain ⟨bx, hbx⟩ : ∃ bx, bx = w.heap.size := ⟨_, rfl⟩
  have h0 : Below w.heap.size w W := by rw [hW]; exact (Below.refl _ _).alloc (Nat.le_refl _) _
  have kx0 : W.cell? ⟨bx, 0, none⟩ = some (.int .i64 Y.x) := by rw [hW, hbx]; simp [go_sem]
  have kx1 : W.cell? ⟨bx, 1, none⟩ = some (.int .i64 Y.y) := by rw [hW, hbx]; simp [go_sem]
  have HW := Lib.hid hW
  have HB := Lib.hid hbx
  have HY := Lib.hid hY
  clear hW hbx hY
  by_cases h3 : N = 3
  · subst h3
    have h3 : l.length = 3 := hN.symm
    obtain ⟨b, o, rfl, hz1, hz2, hz3⟩ := (ha.next h0).pt_ (k := 0) (by omega)
    have p01 := (ha.next h0).pt2 (k := 0) (by omega)
    have q01 := (ha.next h0).pt2 (k := 1) (by omega)
    have x01 := (ha.next h0).pt2 (k := 2) (by omega)
    rw [Nat.zero_mul, Nat.add_zero] at p01
    rw [Nat.one_mul, show o + 2 + 1 = o + 3 from rfl] at q01
    rw [show o + 2 * 2 = o + 4 from rfl, show o + 4 + 1 = o + 5 from rfl] at x01
    obtain ⟨p0, p1⟩ := p01
    obtain ⟨q0, q1⟩ := q01
    obtain ⟨x0, x1⟩ := x01
    have HP0 := Lib.hid (hS.ss (k := 0) (by omega))
    have HQ0 := Lib.hid (hS.ss (k := 1) (by omega))
    have HX0 := Lib.hid (hS.ss (k := 2) (by omega))
    have HR0 := Lib.hid (show sideC (Go.Proofs.YtehnpmkolabiaaaDoor.at_ l 0) (Go.Proofs.YtehnpmkolabiaaaDoor.at_ l 1) (Go.Proofs.YtehnpmkolabiaaaDoor.at_ l 2) Y = r by rw [← hr, locD_3 h3])
    generalize Go.Proofs.YtehnpmkolabiaaaDoor.at_ l 0 = P at *
    generalize Go.Proofs.YtehnpmkolabiaaaDoor.at_ l 1 = Q at *
    generalize Go.Proofs.YtehnpmkolabiaaaDoor.at_ l 2 = X at *
    have HP := HP0
    have HQ := HQ0
    have HX := HX0
    have HR := HR0
    clear hr ha hS hN h3 HP0 HQ0 HX0 HR0 hz1 hz2 hz3
    go_enter Tryd.func14, Tryd.ntmps14
    go_upto_region 3 with (fail)
    rw [← HW.out, ← HB.out]
    refine dir_plain (by kernel_rfl) 12 [[], [(8, 0)], [(9, 1)], [], [(11, 3)], [(12, 4)], [], [(14, 6)], [(15, 7)], [], [(10, 2), (13, 5), (16, 8), (17, 9)], [(18, 10)]] [(8, 0), (9, 1), (10, 2), (11, 3), (12, 4), (13, 5), (14, 6), (15, 7), (16, 8), (17, 9), (18, 10), (4, 11)] [
        (fun v _ => v = .slice (some ⟨b, o, none⟩) 3 c),
        (fun v _ => v = .pointer (some ⟨b, o, none⟩)),
        (fun v _ => v = .agg #[.int .i64 P.x, .int .i64 P.y]),
        (fun v _ => v = .slice (some ⟨b, o, none⟩) 3 c),
        (fun v _ => v = .pointer (some ⟨b, (o + 2), none⟩)),
        (fun v _ => v = .agg #[.int .i64 Q.x, .int .i64 Q.y]),
        (fun v _ => v = .slice (some ⟨b, o, none⟩) 3 c),
        (fun v _ => v = .pointer (some ⟨b, (o + 4), none⟩)),
        (fun v _ => v = .agg #[.int .i64 X.x, .int .i64 X.y]),
        (fun v _ => v = .agg #[.int .i64 Y.x, .int .i64 Y.y]),
        (fun v _ => v = .int .i64 r),
        (fun v _ => v = .int .i64 r)
      ] (by kernel_rfl) (by kernel_rfl) (by kernel_rfl) (by decide) ⟨dstab_eq, dstab_eq, dstab_eq, dstab_eq, dstab_eq, dstab_eq, dstab_eq, dstab_eq, dstab_eq, dstab_eq, dstab_eq, dstab_eq, trivial⟩ ?steps ?fin
    case steps =>
      refine ⟨?_, ?_, ?_, ?_, ?_, ?_, ?_, ?_, ?_, ?_, ?_, ?_, trivial⟩
      · intro vs g w2 hI hF hR K hK
        simp only [Facts, fill, Act.put, z1, z2, z3, z4, z5, Nat.reduceAdd] at hF hR hK ⊢
        go_simp
        exact hK _ () _ hI (Below.refl _ _) rfl
      · intro vs g w2 hI hF hR K hK
        simp only [Facts, fill, Act.put, z1, z2, z3, z4, z5, Nat.reduceAdd] at hF hR hK ⊢
        obtain ⟨r0, -⟩ := hR
        generalize vs 0 = x0 at *
        subst r0
        go_simp
        exact hK _ () _ hI (Below.refl _ _) rfl
      · intro vs g w2 hI hF hR K hK
        simp only [Facts, fill, Act.put, z1, z2, z3, z4, z5, Nat.reduceAdd] at hF hR hK ⊢
        obtain ⟨r1, -⟩ := hR
        generalize vs 1 = x1 at *
        subst r1
        have k0 := (hI.cell (lt_of_cell p0)).trans p0
        have k1 := (hI.cell (lt_of_cell p1)).trans p1
        go_simp
        exact hK _ () _ hI (Below.refl _ _) rfl
      · intro vs g w2 hI hF hR K hK
        simp only [Facts, fill, Act.put, z1, z2, z3, z4, z5, Nat.reduceAdd] at hF hR hK ⊢
        go_simp
        exact hK _ () _ hI (Below.refl _ _) rfl
      · intro vs g w2 hI hF hR K hK
        simp only [Facts, fill, Act.put, z1, z2, z3, z4, z5, Nat.reduceAdd] at hF hR hK ⊢
        obtain ⟨r3, -⟩ := hR
        generalize vs 3 = x3 at *
        subst r3
        go_simp
        exact hK _ () _ hI (Below.refl _ _) rfl
      · intro vs g w2 hI hF hR K hK
        simp only [Facts, fill, Act.put, z1, z2, z3, z4, z5, Nat.reduceAdd] at hF hR hK ⊢
        obtain ⟨r4, -⟩ := hR
        generalize vs 4 = x4 at *
        subst r4
        have k0 := (hI.cell (lt_of_cell q0)).trans q0
        have k1 := (hI.cell (lt_of_cell q1)).trans q1
        go_simp
        exact hK _ () _ hI (Below.refl _ _) rfl
      · intro vs g w2 hI hF hR K hK
        simp only [Facts, fill, Act.put, z1, z2, z3, z4, z5, Nat.reduceAdd] at hF hR hK ⊢
        go_simp
        exact hK _ () _ hI (Below.refl _ _) rfl
      · intro vs g w2 hI hF hR K hK
        simp only [Facts, fill, Act.put, z1, z2, z3, z4, z5, Nat.reduceAdd] at hF hR hK ⊢
        obtain ⟨r6, -⟩ := hR
        generalize vs 6 = x6 at *
        subst r6
        go_simp
        exact hK _ () _ hI (Below.refl _ _) rfl
      · intro vs g w2 hI hF hR K hK
        simp only [Facts, fill, Act.put, z1, z2, z3, z4, z5, Nat.reduceAdd] at hF hR hK ⊢
        obtain ⟨r7, -⟩ := hR
        generalize vs 7 = x7 at *
        subst r7
        have k0 := (hI.cell (lt_of_cell x0)).trans x0
        have k1 := (hI.cell (lt_of_cell x1)).trans x1
        go_simp
        exact hK _ () _ hI (Below.refl _ _) rfl
      · intro vs g w2 hI hF hR K hK
        simp only [Facts, fill, Act.put, z1, z2, z3, z4, z5, Nat.reduceAdd] at hF hR hK ⊢
        have k0 := (hI.cell (lt_of_cell kx0)).trans kx0
        have k1 := (hI.cell (lt_of_cell kx1)).trans kx1
        go_simp
        exact hK _ () _ hI (Below.refl _ _) rfl
      · intro vs g w2 hI hF hR K hK
        simp only [Facts, fill, Act.put, z1, z2, z3, z4, z5, Nat.reduceAdd] at hF hR hK ⊢
        obtain ⟨r2, r5, r8, r9, -⟩ := hR
        generalize vs 2 = x2, vs 5 = x5, vs 8 = x8, vs 9 = x9 at *
        subst r2 r5 r8 r9
        go_simp
        refine (ref7Side_d P Q X Y w2 HP.out HQ.out HX.out HY.out r HR.out).mono ?_
        rintro e w3 ⟨rfl, hb⟩
        exact hK _ () _ (hI.trans (hb.mono hI.size)) hb rfl
      · intro vs g w2 hI hF hR K hK
        simp only [Facts, fill, Act.put, z1, z2, z3, z4, z5, Nat.reduceAdd] at hF hR hK ⊢
        obtain ⟨r10, -⟩ := hR
        generalize vs 10 = x10 at *
        subst r10
        go_simp
        exact hK _ () _ hI (Below.refl _ _) rfl
    case fin =>
      intro vs w2 hI hR
      have r11 := hR 11 (by decide)
      simp only [fill, Act.put, z1, z2, z3, z4, z5] at r11 ⊢
      clear hR
      generalize vs 11 = x11 at *
      subst r11
      refine NoPanic.normal ?_
      go_wp2
      go_ret
      exact ⟨rfl, h0.trans (hI.mono h0.size)⟩
  · have hd : ((N : Int) != 3) = true := by rw [bne_iff_ne]; omega
    have HR := Lib.hid (show r = -1 by rw [← hr]; exact locD_no (by omega) Y)
    clear hr hN ha hS h3
    go_enter Tryd.func14, Tryd.ntmps14
    go_upto_region 1 with (fail)
    rw [← HW.out, ← HB.out]
    go_wp2
    go_ret
    exact ⟨by rw [HR.out]; rfl, h0⟩
end Go.Proofs.YtehnpmkolabiaaaDoor
