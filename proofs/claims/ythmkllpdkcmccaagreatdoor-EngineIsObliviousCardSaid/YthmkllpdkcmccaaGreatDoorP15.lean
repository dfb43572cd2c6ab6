/-
  Packed texts: Ref14, Ref15, Ref16, Ref19, Ref18w, Ref18e, CodW, Ref18i, Ref13.
-/
import Derived.BigQuiet
import Derived.Lib.MinMax
import Derived.WalkSpells
import Derived.Deep.QuietTactic
import Derived.Deep.RegionLaw
import Derived.Deep.DeepCutAuto
import Derived.Deep.CutRange
import Derived.Deep.CutBlock
import Derived.Laws.StructEq
import Derived.Deep.Onto
import Derived.Lib.SliceRun
import Derived.Test.YthmkllpdkcmccaaGreatDoorP14
namespace Go.Proofs.YthmkllpdkcmccaaGreatDoor
open Go.RowKit Go.Maps
set_option maxRecDepth 100000
set_option linter.unusedVariables false
set_option linter.unusedSimpArgs false

theorem isP_lo {l : List Pt} (h : ¬ 3 ≤ l.length) : isP l = false := by unfold isP; rw [decide_eq_false h]; rfl
theorem isP_hi {l : List Pt} (h : ¬ l.length ≤ 64) : isP l = false := by unfold isP; rw [decide_eq_false h]; simp
theorem ref14Is_any (A : Option Addr) (c n : Nat) (l : List Pt) (r : Bool) (w : World) (hn : n = l.length) (hr : isP l = r) :
    Calls Tryz.prog 52 #[.slice A n c] w fun e w' => e = .returned (.bool r) ∧ w' = w := by
  subst hn
  by_cases h1 : 3 ≤ l.length
  · by_cases h2 : l.length ≤ 64
    · have HR := Lib.hid (show r = true by rw [← hr]; exact (isP_iff l).2 ⟨h1, h2⟩)
      clear hr
      go_enter Tryz.func52, Tryz.ntmps52
      go_wp2
      go_ret
      exact ⟨by rw [HR.out]; simp [go_sem, *] <;> omega, rfl⟩
    · have HR := Lib.hid (show r = false by rw [← hr]; exact isP_hi h2)
      clear hr
      go_enter Tryz.func52, Tryz.ntmps52
      go_wp2
      go_ret
      exact ⟨by rw [HR.out]; simp [go_sem, *] <;> omega, rfl⟩
  · have HR := Lib.hid (show r = false by rw [← hr]; exact isP_lo h1)
    clear hr
    go_enter Tryz.func52, Tryz.ntmps52
    go_wp2
    go_ret
    exact ⟨by rw [HR.out]; simp [go_sem, *] <;> omega, rfl⟩
set_option maxHeartbeats 1000000 in
theorem ref14Side_any (A : Option Addr) (c N : Nat) (l : List Pt) (i : Nat) (X : Pt) (r : Int) (T : Nat → Prop) (w : World) (ha : RowR w T 2 ptC A l) (hN : N = l.length) (hl : N ≤ 1000000) (hi : i < N) (hS : SsP l) (hX : S X.x ∧ S X.y) (hr : side l i X = r) :
    Calls Tryz.prog 54 #[.slice A N c, .int .i64 i, .agg #[.int .i64 X.x, .int .i64 X.y]] w fun e w' => e = .returned (.int .i64 r) ∧ Below w.heap.size w w' := by
  obtain ⟨j, hj⟩ : ∃ j, j = nx N i := ⟨_, rfl⟩
  have hjN : j < N := by rw [hj]; exact nx_lt (by omega)
  have hi1 : i < l.length := by rw [← hN]; exact hi
  have hj1 : j < l.length := by rw [← hN]; exact hjN
  obtain ⟨b, o, rfl, hz1, hz2, hz3⟩ := ha.pt_ hi1
  obtain ⟨W, hW⟩ : ∃ W, W = w.alloc (.cells #[.int .i64 X.x, .int .i64 X.y] 24) := ⟨_, rfl⟩
  obtain ⟨bx, hbx⟩ : ∃ bx, bx = w.heap.size := ⟨_, rfl⟩
  have h0 : Below w.heap.size w W := by rw [hW]; exact (Below.refl _ _).alloc (Nat.le_refl _) _
  have kx0 : W.cell? ⟨bx, 0, none⟩ = some (.int .i64 X.x) := by rw [hW, hbx]; simp [go_sem]
  have kx1 : W.cell? ⟨bx, 1, none⟩ = some (.int .i64 X.y) := by rw [hW, hbx]; simp [go_sem]
  obtain ⟨p0, p1⟩ := (ha.next h0).pt2 hi1
  obtain ⟨q0, q1⟩ := (ha.next h0).pt2 hj1
  obtain ⟨P, hP⟩ : ∃ P, P = Go.Proofs.YthmkllpdkcmccaaGreatDoor.at_ l i := ⟨_, rfl⟩
  obtain ⟨Q, hQ⟩ : ∃ Q, Q = Go.Proofs.YthmkllpdkcmccaaGreatDoor.at_ l j := ⟨_, rfl⟩
  rw [← hP] at p0 p1
  rw [← hQ] at q0 q1
  have HP := Lib.hid (show S P.x ∧ S P.y by rw [hP]; exact hS.ss hi1)
  have HQ := Lib.hid (show S Q.x ∧ S Q.y by rw [hQ]; exact hS.ss hj1)
  have HX := Lib.hid hX
  have HR := Lib.hid (show sgnP P Q X = r by rw [hP, hQ, hj, hN]; exact hr)
  have hrem : ((i : Int) + 1).tmod (N : Int) = (j : Int) := by rw [hj]; exact tmod_nx hi
  have hsum : IntKind.i64.wrap ((i : Int) + 1) = (i : Int) + 1 := wrap_i64' (by omega) (by omega)
  have hN0 : ¬ N = 0 := by omega
  have HW := Lib.hid hW
  have HB := Lib.hid hbx
  clear hW hbx hX hr hj hP hQ hN ha hS hz1 hz2 hz3 hi1 hj1
  go_enter Tryz.func54, Tryz.ntmps54
  go_upto_region 1 with (fail)
  rw [← HW.out, ← HB.out]
  refine dir_plain (by kernel_rfl) 15 [[], [], [(7, 0), (8, 1)], [(9, 2)], [], [], [(12, 5)], [], [(14, 7)], [(13, 6), (15, 8)], [(11, 4), (16, 9)], [(17, 10)], [], [(10, 3), (18, 11), (19, 12)], [(20, 13)]] [(7, 0), (8, 1), (9, 2), (10, 3), (11, 4), (12, 5), (13, 6), (14, 7), (15, 8), (16, 9), (17, 10), (18, 11), (19, 12), (20, 13), (6, 14)] [
      (fun v _ => v = .slice (some ⟨b, o, none⟩) N c),
      (fun v _ => v = .int .i64 i),
      (fun v _ => v = .pointer (some ⟨b, (o + i * 2), none⟩)),
      (fun v _ => v = .agg #[.int .i64 P.x, .int .i64 P.y]),
      (fun v _ => v = .slice (some ⟨b, o, none⟩) N c),
      (fun v _ => v = .int .i64 i),
      (fun v _ => v = .int .i64 (i + 1)),
      (fun v _ => v = .slice (some ⟨b, o, none⟩) N c),
      (fun v _ => v = .int .i64 N),
      (fun v _ => v = .int .i64 j),
      (fun v _ => v = .pointer (some ⟨b, (o + j * 2), none⟩)),
      (fun v _ => v = .agg #[.int .i64 Q.x, .int .i64 Q.y]),
      (fun v _ => v = .agg #[.int .i64 X.x, .int .i64 X.y]),
      (fun v _ => v = .int .i64 r),
      (fun v _ => v = .int .i64 r)
    ] (by kernel_rfl) (by kernel_rfl) (by kernel_rfl) (by decide) ⟨dstab_eq, dstab_eq, dstab_eq, dstab_eq, dstab_eq, dstab_eq, dstab_eq, dstab_eq, dstab_eq, dstab_eq, dstab_eq, dstab_eq, dstab_eq, dstab_eq, dstab_eq, trivial⟩ ?steps ?fin
  case steps =>
    refine ⟨?_, ?_, ?_, ?_, ?_, ?_, ?_, ?_, ?_, ?_, ?_, ?_, ?_, ?_, ?_, trivial⟩
    · intro vs g w2 hI hF hR K hK
      simp only [Facts, fill, Act.put, z1, z2, z3, z4, z5, Nat.reduceAdd] at hF hR hK ⊢
      go_simp
      exact hK _ () _ hI (Below.refl _ _) rfl
    · intro vs g w2 hI hF hR K hK
      simp only [Facts, fill, Act.put, z1, z2, z3, z4, z5, Nat.reduceAdd] at hF hR hK ⊢
      go_simp
      exact hK _ () _ hI (Below.refl _ _) rfl
    · intro vs g w2 hI hF hR K hK
      simp only [Facts, fill, Act.put, z1, z2, z3, z4, z5, Nat.reduceAdd] at hF hR hK ⊢
      obtain ⟨r0, r1, -⟩ := hR
      generalize vs 0 = x0, vs 1 = x1 at *
      subst r0 r1
      go_simp
      exact hK _ () _ hI (Below.refl _ _) rfl
    · intro vs g w2 hI hF hR K hK
      simp only [Facts, fill, Act.put, z1, z2, z3, z4, z5, Nat.reduceAdd] at hF hR hK ⊢
      obtain ⟨r2, -⟩ := hR
      generalize vs 2 = x2 at *
      subst r2
      have k0 := (hI.cell (lt_of_cell p0)).trans p0
      have k1 := (hI.cell (lt_of_cell p1)).trans p1
      go_simp
      exact hK _ () _ hI (Below.refl _ _) rfl
    · intro vs g w2 hI hF hR K hK
      simp only [Facts, fill, Act.put, z1, z2, z3, z4, z5, Nat.reduceAdd] at hF hR hK ⊢
      go_simp
      exact hK _ () _ hI (Below.refl _ _) rfl
    · intro vs g w2 hI hF hR K hK
      simp only [Facts, fill, Act.put, z1, z2, z3, z4, z5, Nat.reduceAdd] at hF hR hK ⊢
      go_simp
      exact hK _ () _ hI (Below.refl _ _) rfl
    · intro vs g w2 hI hF hR K hK
      simp only [Facts, fill, Act.put, z1, z2, z3, z4, z5, Nat.reduceAdd] at hF hR hK ⊢
      obtain ⟨r5, -⟩ := hR
      generalize vs 5 = x5 at *
      subst r5
      go_simp
      exact hK _ () _ hI (Below.refl _ _) rfl
    · intro vs g w2 hI hF hR K hK
      simp only [Facts, fill, Act.put, z1, z2, z3, z4, z5, Nat.reduceAdd] at hF hR hK ⊢
      go_simp
      exact hK _ () _ hI (Below.refl _ _) rfl
    · intro vs g w2 hI hF hR K hK
      simp only [Facts, fill, Act.put, z1, z2, z3, z4, z5, Nat.reduceAdd] at hF hR hK ⊢
      obtain ⟨r7, -⟩ := hR
      generalize vs 7 = x7 at *
      subst r7
      go_simp
      exact hK _ () _ hI (Below.refl _ _) rfl
    · intro vs g w2 hI hF hR K hK
      simp only [Facts, fill, Act.put, z1, z2, z3, z4, z5, Nat.reduceAdd] at hF hR hK ⊢
      obtain ⟨r6, r8, -⟩ := hR
      generalize vs 6 = x6, vs 8 = x8 at *
      subst r6 r8
      have HM2 := hrem
      have HM3 := hN0
      go_simp
      exact hK _ () _ hI (Below.refl _ _) rfl
    · intro vs g w2 hI hF hR K hK
      simp only [Facts, fill, Act.put, z1, z2, z3, z4, z5, Nat.reduceAdd] at hF hR hK ⊢
      obtain ⟨r4, r9, -⟩ := hR
      generalize vs 4 = x4, vs 9 = x9 at *
      subst r4 r9
      go_simp
      exact hK _ () _ hI (Below.refl _ _) rfl
    · intro vs g w2 hI hF hR K hK
      simp only [Facts, fill, Act.put, z1, z2, z3, z4, z5, Nat.reduceAdd] at hF hR hK ⊢
      obtain ⟨r10, -⟩ := hR
      generalize vs 10 = x10 at *
      subst r10
      have k0 := (hI.cell (lt_of_cell q0)).trans q0
      have k1 := (hI.cell (lt_of_cell q1)).trans q1
      go_simp
      exact hK _ () _ hI (Below.refl _ _) rfl
    · intro vs g w2 hI hF hR K hK
      simp only [Facts, fill, Act.put, z1, z2, z3, z4, z5, Nat.reduceAdd] at hF hR hK ⊢
      have k0 := (hI.cell (lt_of_cell kx0)).trans kx0
      have k1 := (hI.cell (lt_of_cell kx1)).trans kx1
      go_simp
      exact hK _ () _ hI (Below.refl _ _) rfl
    · intro vs g w2 hI hF hR K hK
      simp only [Facts, fill, Act.put, z1, z2, z3, z4, z5, Nat.reduceAdd] at hF hR hK ⊢
      obtain ⟨r3, r11, r12, -⟩ := hR
      generalize vs 3 = x3, vs 11 = x11, vs 12 = x12 at *
      subst r3 r11 r12
      go_simp
      refine (ref6Sign_d P Q X w2 HP.out HQ.out HX.out r HR.out).mono ?_
      rintro e w3 ⟨rfl, hb⟩
      exact hK _ () _ (hI.trans (hb.mono hI.size)) hb rfl
    · intro vs g w2 hI hF hR K hK
      simp only [Facts, fill, Act.put, z1, z2, z3, z4, z5, Nat.reduceAdd] at hF hR hK ⊢
      obtain ⟨r13, -⟩ := hR
      generalize vs 13 = x13 at *
      subst r13
      go_simp
      exact hK _ () _ hI (Below.refl _ _) rfl
  case fin =>
    intro vs w2 hI hR
    have r14 := hR 14 (by decide)
    simp only [fill, Act.put, z1, z2, z3, z4, z5] at r14 ⊢
    clear hR
    generalize vs 14 = x14 at *
    subst r14
    refine NoPanic.normal ?_
    go_wp2
    go_ret
    exact ⟨rfl, h0.trans (hI.mono h0.size)⟩
theorem orP_no {l : List Pt} (h : isP l = false) : orP l = 0 := by unfold orP; rw [h]; rfl
theorem ref14Or_any (A : Option Addr) (c N : Nat) (l : List Pt) (r : Int) (T : Nat → Prop) (w : World) (ha : RowR w T 2 ptC A l) (hN : N = l.length) (hl : N ≤ 1000000) (hS : SsP l) (hr : orP l = r) :
    Calls Tryz.prog 53 #[.slice A N c] w fun e w' => e = .returned (.int .i64 r) ∧ Below w.heap.size w w' := by
  have HN := Lib.hid hN
  cases hp : isP l with
  | false =>
    have HR := Lib.hid (show r = 0 by rw [← hr]; exact orP_no hp)
    have HP := Lib.hid hp
    clear hr hp hN
    go_enter Tryz.func53, Tryz.ntmps53
    go_wp2_with (fail)
    refine (ref14Is_any A c N l false w HN.out HP.out).mono ?_
    rintro e w1 ⟨rfl, hw1⟩
    obtain rfl := hw1.symm
    go_wp2
    go_ret
    exact ⟨by rw [HR.out]; rfl, Below.refl _ _⟩
  | true =>
    have hn := (isP_iff l).1 hp
    obtain ⟨b, o, rfl, hz1, hz2, hz3⟩ := ha.pt_ (k := 0) (by omega)
    have p01 := ha.pt2 (k := 0) (by omega)
    have q01 := ha.pt2 (k := 1) (by omega)
    have x01 := ha.pt2 (k := 2) (by omega)
    rw [Nat.zero_mul, Nat.add_zero] at p01
    rw [Nat.one_mul, show o + 2 + 1 = o + 3 from rfl] at q01
    rw [show o + 2 * 2 = o + 4 from rfl, show o + 4 + 1 = o + 5 from rfl] at x01
    obtain ⟨p0, p1⟩ := p01
    obtain ⟨q0, q1⟩ := q01
    obtain ⟨x0, x1⟩ := x01
    have HR0 := Lib.hid (show sgnP (Go.Proofs.YthmkllpdkcmccaaGreatDoor.at_ l 0) (Go.Proofs.YthmkllpdkcmccaaGreatDoor.at_ l 1) (Go.Proofs.YthmkllpdkcmccaaGreatDoor.at_ l 2) = r by rw [← hr]; unfold orP; rw [if_pos hp])
    have HP0 := Lib.hid (hS.ss (k := 0) (by omega))
    have HQ0 := Lib.hid (hS.ss (k := 1) (by omega))
    have HX0 := Lib.hid (hS.ss (k := 2) (by omega))
    generalize Go.Proofs.YthmkllpdkcmccaaGreatDoor.at_ l 0 = P at *
    generalize Go.Proofs.YthmkllpdkcmccaaGreatDoor.at_ l 1 = Q at *
    generalize Go.Proofs.YthmkllpdkcmccaaGreatDoor.at_ l 2 = X at *
    have HR := HR0
    have HP := HP0
    have HQ := HQ0
    have HX := HX0
    have HI := Lib.hid hp
    have hN1 : 0 < N := by omega
    have hN2 : (1 : Int) < (N : Int) := by omega
    have hN3 : (2 : Int) < (N : Int) := by omega
    clear hr hp hN HR0 HP0 HQ0 HX0 hz1 hz2 hz3
    go_enter Tryz.func53, Tryz.ntmps53
    go_wp2_with (fail)
    refine (ref14Is_any _ c N l true w HN.out HI.out).mono ?_
    rintro e w1 ⟨rfl, hw1⟩
    obtain rfl := hw1.symm
    clear ha hS hn HI
    go_wp2
    refine dir_plain (by kernel_rfl) 11 [[], [(6, 0)], [(7, 1)], [], [(9, 3)], [(10, 4)], [], [(12, 6)], [(13, 7)], [(8, 2), (11, 5), (14, 8)], [(15, 9)]] [(6, 0), (7, 1), (8, 2), (9, 3), (10, 4), (11, 5), (12, 6), (13, 7), (14, 8), (15, 9), (2, 10)] [
        (fun v _ => v = .slice (some ⟨b, o, none⟩) N c),
        (fun v _ => v = .pointer (some ⟨b, o, none⟩)),
        (fun v _ => v = .agg #[.int .i64 P.x, .int .i64 P.y]),
        (fun v _ => v = .slice (some ⟨b, o, none⟩) N c),
        (fun v _ => v = .pointer (some ⟨b, (o + 2), none⟩)),
        (fun v _ => v = .agg #[.int .i64 Q.x, .int .i64 Q.y]),
        (fun v _ => v = .slice (some ⟨b, o, none⟩) N c),
        (fun v _ => v = .pointer (some ⟨b, (o + 4), none⟩)),
        (fun v _ => v = .agg #[.int .i64 X.x, .int .i64 X.y]),
        (fun v _ => v = .int .i64 r),
        (fun v _ => v = .int .i64 r)
      ] (by kernel_rfl) (by kernel_rfl) (by kernel_rfl) (by decide) ⟨dstab_eq, dstab_eq, dstab_eq, dstab_eq, dstab_eq, dstab_eq, dstab_eq, dstab_eq, dstab_eq, dstab_eq, dstab_eq, trivial⟩ ?steps ?fin
    case steps =>
      refine ⟨?_, ?_, ?_, ?_, ?_, ?_, ?_, ?_, ?_, ?_, ?_, trivial⟩
      · intro vs g w2 hI hF hR K hK
        simp only [Facts, fill, Act.put, z1, z2, z3, z4, z5, Nat.reduceAdd] at hF hR hK ⊢
        go_simp
        exact hK _ () _ hI (Below.refl _ _) rfl
      · intro vs g w2 hI hF hR K hK
        simp only [Facts, fill, Act.put, z1, z2, z3, z4, z5, Nat.reduceAdd] at hF hR hK ⊢
        obtain ⟨r0, -⟩ := hR
        generalize vs 0 = x0 at *
        subst r0
        have HM1 := hN1
        go_simp
        exact hK _ () _ hI (Below.refl _ _) rfl
      · intro vs g w2 hI hF hR K hK
        simp only [Facts, fill, Act.put, z1, z2, z3, z4, z5, Nat.reduceAdd] at hF hR hK ⊢
        obtain ⟨r1, -⟩ := hR
        generalize vs 1 = x1 at *
        subst r1
        have k0 := (hI.cell (lt_of_cell p0)).trans p0
        have k1 := (hI.cell (lt_of_cell p1)).trans p1
        go_simp
        exact hK _ () _ hI (Below.refl _ _) rfl
      · intro vs g w2 hI hF hR K hK
        simp only [Facts, fill, Act.put, z1, z2, z3, z4, z5, Nat.reduceAdd] at hF hR hK ⊢
        go_simp
        exact hK _ () _ hI (Below.refl _ _) rfl
      · intro vs g w2 hI hF hR K hK
        simp only [Facts, fill, Act.put, z1, z2, z3, z4, z5, Nat.reduceAdd] at hF hR hK ⊢
        obtain ⟨r3, -⟩ := hR
        generalize vs 3 = x3 at *
        subst r3
        have HM1 := hN2
        go_simp
        exact hK _ () _ hI (Below.refl _ _) rfl
      · intro vs g w2 hI hF hR K hK
        simp only [Facts, fill, Act.put, z1, z2, z3, z4, z5, Nat.reduceAdd] at hF hR hK ⊢
        obtain ⟨r4, -⟩ := hR
        generalize vs 4 = x4 at *
        subst r4
        have k0 := (hI.cell (lt_of_cell q0)).trans q0
        have k1 := (hI.cell (lt_of_cell q1)).trans q1
        go_simp
        exact hK _ () _ hI (Below.refl _ _) rfl
      · intro vs g w2 hI hF hR K hK
        simp only [Facts, fill, Act.put, z1, z2, z3, z4, z5, Nat.reduceAdd] at hF hR hK ⊢
        go_simp
        exact hK _ () _ hI (Below.refl _ _) rfl
      · intro vs g w2 hI hF hR K hK
        simp only [Facts, fill, Act.put, z1, z2, z3, z4, z5, Nat.reduceAdd] at hF hR hK ⊢
        obtain ⟨r6, -⟩ := hR
        generalize vs 6 = x6 at *
        subst r6
        have HM1 := hN3
        go_simp
        exact hK _ () _ hI (Below.refl _ _) rfl
      · intro vs g w2 hI hF hR K hK
        simp only [Facts, fill, Act.put, z1, z2, z3, z4, z5, Nat.reduceAdd] at hF hR hK ⊢
        obtain ⟨r7, -⟩ := hR
        generalize vs 7 = x7 at *
        subst r7
        have k0 := (hI.cell (lt_of_cell x0)).trans x0
        have k1 := (hI.cell (lt_of_cell x1)).trans x1
        go_simp
        exact hK _ () _ hI (Below.refl _ _) rfl
      · intro vs g w2 hI hF hR K hK
        simp only [Facts, fill, Act.put, z1, z2, z3, z4, z5, Nat.reduceAdd] at hF hR hK ⊢
        obtain ⟨r2, r5, r8, -⟩ := hR
        generalize vs 2 = x2, vs 5 = x5, vs 8 = x8 at *
        subst r2 r5 r8
        go_simp
        refine (ref6Sign_d P Q X w2 HP.out HQ.out HX.out r HR.out).mono ?_
        rintro e w3 ⟨rfl, hb⟩
        exact hK _ () _ (hI.trans (hb.mono hI.size)) hb rfl
      · intro vs g w2 hI hF hR K hK
        simp only [Facts, fill, Act.put, z1, z2, z3, z4, z5, Nat.reduceAdd] at hF hR hK ⊢
        obtain ⟨r9, -⟩ := hR
        generalize vs 9 = x9 at *
        subst r9
        go_simp
        exact hK _ () _ hI (Below.refl _ _) rfl
    case fin =>
      intro vs w2 hI hR
      have r10 := hR 10 (by decide)
      simp only [fill, Act.put, z1, z2, z3, z4, z5] at r10 ⊢
      clear hR
      generalize vs 10 = x10 at *
      subst r10
      refine NoPanic.normal ?_
      go_wp2
      go_ret
      exact ⟨rfl, hI⟩
theorem locP_no {l : List Pt} {p : Pt} (h : isP l = false) : locP l p = -1 := by unfold locP; rw [h]; rfl
theorem locP_yes {l : List Pt} {p : Pt} (h : isP l = true) : locP l p = minL (sides l p l.length) := by unfold locP; rw [if_pos h]
theorem mul_in {s r : Int} (hs : s = -1 ∨ s = 0 ∨ s = 1) (hr : r = -1 ∨ r = 0 ∨ r = 1) : -1 ≤ s * r ∧ s * r ≤ 1 := by
  rcases hs with rfl | rfl | rfl <;> rcases hr with rfl | rfl | rfl <;> decide
theorem side_in (l : List Pt) (i : Nat) (p : Pt) : side l i p = -1 ∨ side l i p = 0 ∨ side l i p = 1 := sgn_in _ _ _
def LocRel (w : World) (l : List Pt) (p : Pt) (bx : Nat) (m i : Value) (wr : World) : Prop := ∃ k : Nat, i = .int .i64 k ∧ k ≤ l.length ∧ m = .int .i64 (minL (sides l p k)) ∧ Below w.heap.size w wr ∧ wr.cell? ⟨bx, 0, none⟩ = some (.int .i64 p.x) ∧ wr.cell? ⟨bx, 1, none⟩ = some (.int .i64 p.y)
set_option maxHeartbeats 1000000 in
theorem ref14Locate_any (A : Option Addr) (c N : Nat) (l : List Pt) (p : Pt) (r : Int) (T : Nat → Prop) (w : World) (ha : RowR w T 2 ptC A l) (hN : N = l.length) (hl : N ≤ 1000000) (hS : SsP l) (hp : S p.x ∧ S p.y) (hr : locP l p = r) :
    Calls Tryz.prog 27 #[.slice A N c, .agg #[.int .i64 p.x, .int .i64 p.y]] w fun e w' => e = .returned (.int .i64 r) ∧ Below w.heap.size w w' := by
  have h0 : Below w.heap.size w (w.alloc (.cells #[.int .i64 p.x, .int .i64 p.y] 24)) := (Below.refl _ _).alloc (Nat.le_refl _) _
  have HN := Lib.hid hN
  cases hp2 : isP l with
  | false =>
    have HR := Lib.hid (show r = -1 by rw [← hr]; exact locP_no hp2)
    have HP := Lib.hid hp2
    clear hr hp2 hN
    go_enter Tryz.func27, Tryz.ntmps27
    go_wp2_with (fail)
    refine (ref14Is_any A c N l false _ HN.out HP.out).mono ?_
    rintro e w1 ⟨rfl, hw1⟩
    obtain rfl := hw1.symm
    go_wp2
    go_ret
    exact ⟨by rw [HR.out]; rfl, h0⟩
  | true =>
    have hn := (isP_iff l).1 hp2
    have HR := Lib.hid (show r = minL (sides l p l.length) by rw [← hr]; exact locP_yes hp2)
    have HP := Lib.hid hp2
    have c0 : (w.alloc (.cells #[.int .i64 p.x, .int .i64 p.y] 24)).cell? ⟨w.heap.size, 0, none⟩ = some (.int .i64 p.x) := by simp [go_sem]
    have c1 : (w.alloc (.cells #[.int .i64 p.x, .int .i64 p.y] 24)).cell? ⟨w.heap.size, 1, none⟩ = some (.int .i64 p.y) := by simp [go_sem]
    clear hr hp2 hN
    go_enter Tryz.func27, Tryz.ntmps27
    go_wp2_with (fail)
    refine (ref14Is_any A c N l true _ HN.out HP.out).mono ?_
    rintro e w1 ⟨rfl, hw1⟩
    obtain rfl := hw1.symm
    obtain ⟨s, hs⟩ : ∃ s, orP l = s := ⟨_, rfl⟩
    go_wp2_with (fail)
    refine (ref14Or_any A c N l s T _ (ha.next h0) HN.out hl hS hs).mono ?_
    rintro e w2 ⟨rfl, hb2⟩
    have h2 := h0.trans (hb2.mono h0.size)
    have d0 := (hb2.cell (p := ⟨w.heap.size, 0, none⟩) (lt_of_cell c0)).trans c0
    have d1 := (hb2.cell (p := ⟨w.heap.size, 1, none⟩) (lt_of_cell c1)).trans c1
    have hs1 := or_in l
    rw [hs] at hs1
    have HS := Lib.hid hs
    clear hs c0 c1 hb2 h0
    go_wp2
    go_loopw [6, 7] (fun m i wr => LocRel w l p w.heap.size m i wr) (fun _ i _ => N - (intOf i).toNat)
    case atStart => exact ⟨0, rfl, Nat.zero_le _, rfl, h2, d0, d1⟩
    case round =>
      clear h2 d0 d1
      obtain ⟨k, rfl, hk, rfl, hb, c0, c1⟩ := hrel
      by_cases hgo : k < N
      · obtain ⟨m0, hm0⟩ : ∃ m0, minL (sides l p k) = m0 := ⟨_, rfl⟩
        obtain ⟨q, hq⟩ : ∃ q, side l k p = q := ⟨_, rfl⟩
        have hq1 := side_in l k p
        rw [hq] at hq1
        obtain ⟨x, hx⟩ : ∃ x, s * q = x := ⟨_, rfl⟩
        have hx1 := mul_in hs1 hq1
        rw [hx] at hx1
        obtain ⟨m1, hm1⟩ : ∃ m1, min m0 x = m1 := ⟨_, rfl⟩
        have HM := Lib.hid (show minL (sides l p (k + 1)) = m1 by rw [sides_succ, minL_snoc, hm0, HS.out, hq, hx, hm1])
        have HQ := Lib.hid hq
        have hwr : IntKind.i64.wrap (s * q) = x := by rw [hx]; exact wrap_i64' (by omega) (by omega)
        rw [hm0]
        have hk2 : k + 1 ≤ l.length := by rw [← HN.out]; omega
        clear hm0 hq hx hn hk hq1 hs1
        go_wp2_with (fail)
        refine (ref14Side_any A c N l k p q T _ (ha.next hb) HN.out hl hgo hS hp HQ.out).mono ?_
        rintro e w3 ⟨rfl, hb3⟩
        have h3 := hb.trans (hb3.mono hb.size)
        have d0 := (hb3.cell (p := ⟨w.heap.size, 0, none⟩) (lt_of_cell c0)).trans c0
        have d1 := (hb3.cell (p := ⟨w.heap.size, 1, none⟩) (lt_of_cell c1)).trans c1
        clear c0 c1 hb hb3
        go_wp2
        go_roundw
        case rel => exact ⟨k + 1, by go_num, hk2, by rw [HM.out], h3, d0, d1⟩
        case measure => simp [intOf]; omega
      · have HE := Lib.hid (show minL (sides l p k) = r by rw [HR.out, show k = l.length by have := HN.out; omega])
        rw [HE.out]
        clear hn hs1 c0 c1
        go_wp2
        go_ret
        exact ⟨rfl, hb⟩
def VaRel (w : World) (l : List Pt) (s : Int) (i : Value) (wr : World) : Prop := ∃ k : Nat, i = .int .i64 k ∧ k ≤ l.length ∧ goodTo l s k ∧ Below w.heap.size w wr
def VbRel (w : World) (l : List Pt) (s : Int) (i : Nat) (j : Value) (wr : World) : Prop := ∃ k : Nat, j = .int .i64 k ∧ k ≤ l.length ∧ rowTo l s i k ∧ Below w.heap.size w wr
set_option maxHeartbeats 2000000 in
theorem ref14Valid_any (A : Option Addr) (c N : Nat) (l : List Pt) (r : Bool) (T : Nat → Prop) (w : World) (ha : RowR w T 2 ptC A l) (hN : N = l.length) (hS : SsP l) (hr : validP l = r) :
    Calls Tryz.prog 26 #[.slice A N c] w fun e w' => e = .returned (.bool r) ∧ Below w.heap.size w w' := by
  have HN := Lib.hid hN
  cases hp2 : isP l with
  | false =>
    have HR := Lib.hid (show r = false by rw [← hr]; exact validP_lo hp2)
    have HP := Lib.hid hp2
    clear hr hp2 hN
    go_enter Tryz.func26, Tryz.ntmps26
    go_wp2_with (fail)
    refine (ref14Is_any A c N l false _ HN.out HP.out).mono ?_
    rintro e w1 ⟨rfl, hw1⟩
    obtain rfl := hw1.symm
    go_wp2
    go_ret
    exact ⟨by rw [HR.out]; rfl, Below.refl _ _⟩
  | true =>
    have hn := (isP_iff l).1 hp2
    have hl : N ≤ 1000000 := by have := HN.out; omega
    have HR := Lib.hid hr
    have HP := Lib.hid hp2
    clear hr hp2 hN
    go_enter Tryz.func26, Tryz.ntmps26
    go_wp2_with (fail)
    refine (ref14Is_any A c N l true _ HN.out HP.out).mono ?_
    rintro e w1 ⟨rfl, hw1⟩
    obtain rfl := hw1.symm
    obtain ⟨s, hs⟩ : ∃ s, orP l = s := ⟨_, rfl⟩
    go_wp2_with (fail)
    refine (ref14Or_any A c N l s T _ ha HN.out hl hS hs).mono ?_
    rintro e w2 ⟨rfl, hb2⟩
    have HS := Lib.hid hs
    have hn1 : N ≤ 64 := by have := HN.out; omega
    clear hs hn
    go_wp2
    go_loopw [4] (fun i wr => VaRel w l s i wr) (fun i _ => N - (intOf i).toNat)
    case atStart => exact ⟨0, rfl, Nat.zero_le _, goodTo_zero _ _, hb2⟩
    case round =>
      clear hb2
      obtain ⟨i, rfl, hi, hg, hb⟩ := hrel
      rw [← HN.out] at hi
      have HG := Lib.hid hg
      clear hg
      by_cases hgo : i < N
      · obtain ⟨q, hq⟩ : ∃ q, q = nx N i := ⟨_, rfl⟩
        have hqN : q < N := by rw [hq]; exact nx_lt (by omega)
        have hrem : ((i : Int) + 1).tmod (N : Int) = (q : Int) := by rw [hq]; exact tmod_nx hgo
        have hsum : IntKind.i64.wrap ((i : Int) + 1) = (i : Int) + 1 := wrap_i64' (by omega) (by omega)
        have HQ := Lib.hid hq
        clear hq
        go_wp2
        go_loopw [5] (fun j wr => VbRel w l s i j wr) (fun j _ => N - (intOf j).toNat)
        case atStart => exact ⟨0, rfl, Nat.zero_le _, rowTo_zero _ _ _, hb⟩
        case round =>
          clear hb
          obtain ⟨j, rfl, hj, hw, hb⟩ := hrel
          rw [← HN.out] at hj
          have HW := Lib.hid hw
          clear hw
          by_cases hgj : j < N
          · by_cases e1 : j = i
            · have d1 : ((j : Int) != (i : Int)) = false := by rw [bne_eq_false_iff_eq]; omega
              have HI := Lib.hid (rowTo_skip HW.out (.inl e1))
              clear e1
              go_wp2
              go_roundw
              case rel => exact ⟨j + 1, by go_num, by rw [← HN.out]; omega, HI.out, hb⟩
              case measure => simp [intOf]; omega
            · have d1 : ((j : Int) != (i : Int)) = true := by rw [bne_iff_ne]; omega
              by_cases e2 : j = q
              · have d2 : ((j : Int) != (q : Int)) = false := by rw [bne_eq_false_iff_eq]; omega
                have HI := Lib.hid (rowTo_skip HW.out (.inr (by rw [e2, HQ.out, HN.out])))
                clear e1 e2
                go_wp2
                go_roundw
                case rel => exact ⟨j + 1, by go_num, by rw [← HN.out]; omega, HI.out, hb⟩
                case measure => simp [intOf]; omega
              · have d2 : ((j : Int) != (q : Int)) = true := by rw [bne_iff_ne]; omega
                obtain ⟨x, hx⟩ : ∃ x, side l i (Go.Proofs.YthmkllpdkcmccaaGreatDoor.at_ l j) = x := ⟨_, rfl⟩
                obtain ⟨b, o, rfl, hz1, hz2, hz3⟩ := (ha.next hb).pt_ (k := j) (by rw [← HN.out]; exact hgj)
                obtain ⟨p0, p1⟩ := (ha.next hb).pt2 (k := j) (by rw [← HN.out]; exact hgj)
                have HY := Lib.hid (hS.ss (k := j) (by rw [← HN.out]; exact hgj))
                have HX := Lib.hid hx
                have HE := Lib.hid (And.intro e1 e2)
                obtain ⟨Y, hY⟩ : ∃ Y, Y = Go.Proofs.YthmkllpdkcmccaaGreatDoor.at_ l j := ⟨_, rfl⟩
                rw [← hY] at p0 p1 HX HY
                have HZ := Lib.hid hY
                have HA := Lib.hid ha
                clear hx hz1 hz2 hz3 e1 e2 hY ha
                go_wp2_with (fail)
                refine (ref14Side_any _ c N l i Y x T _ (HA.out.next hb) HN.out hl hgo hS HY.out HX.out).mono ?_
                rintro e w3 ⟨rfl, hb3⟩
                have h3 := hb.trans (hb3.mono hb.size)
                by_cases e3 : x = s
                · have d3 : (x != s) = false := by rw [bne_eq_false_iff_eq]; exact e3
                  have HI := Lib.hid (rowTo_succ HW.out (by rw [← HZ.out, HX.out, e3]))
                  clear e3 hb3 p0 p1
                  go_wp2
                  go_roundw
                  case rel => exact ⟨j + 1, by go_num, by rw [← HN.out]; omega, HI.out, h3⟩
                  case measure => simp [intOf]; omega
                · have d3 : (x != s) = true := by rw [bne_iff_ne]; exact e3
                  have HF := Lib.hid (show r = false by rw [← HR.out]; exact validP_no HS.out (i := i) (j := j) (by rw [← HN.out]; exact hgo) (by rw [← HN.out]; exact hgj) HE.out.1 (by rw [← HN.out, ← HQ.out]; exact HE.out.2) (by rw [← HZ.out, HX.out]; exact e3))
                  clear e3 hb3 p0 p1
                  go_wp2
                  go_ret
                  exact ⟨by rw [HF.out]; rfl, h3⟩
          · have HI := Lib.hid (goodTo_succ HG.out (by have h := HW.out; rw [show j = l.length by rw [← HN.out]; omega] at h; exact h))
            go_wp2
            go_roundw
            case rel => exact ⟨i + 1, by go_num, by rw [← HN.out]; omega, HI.out, hb⟩
            case measure => simp [intOf]; omega
      · have HV := Lib.hid (validP_end HP.out HS.out (by have h := HG.out; rw [show i = l.length by rw [← HN.out]; omega] at h; exact h))
        obtain ⟨z, hz⟩ : ∃ z, (s != 0) = z := ⟨_, rfl⟩
        have HZ := Lib.hid hz
        go_wp2
        go_ret
        exact ⟨by rw [← HR.out, HV.out, HZ.out]; rfl, hb⟩
theorem lit_evE (w : World) (k a b : Int) : EvsR (w.alloc (.cells #[.int .i64 k, .int .i64 a, .int .i64 b] 73)) (fun g => w.heap.size ≤ g) (some ⟨w.heap.size, 0, none⟩) [⟨k, a, b⟩] := fun _ => by
  refine ⟨w.heap.size, 0, rfl, Nat.le_refl _, fun j x hx => ?_⟩
  match j, hx with
  | 0, hx => simp at hx; subst hx; simp [go_sem]
/-- What a call that makes a row of events of its own gives. -/
def GivesE (w : World) (l : List Ev) (e : Ending) (w' : World) : Prop := ∃ v, e = .returned v ∧ w'.ownsRow w.heap.size 73 3 v l.length (l.flatMap evC) ∧ Below w.heap.size w w'
theorem own_ev1 {w : World} {base : Nat} {v : Value} {L M : List Ev} {e : Ev} (hM : M = L ++ [e]) (h : w.ownsRow base 73 3 v (L.length + [e].length) (L.flatMap evC ++ [e].flatMap evC)) : w.ownsRow base 73 3 v M.length (M.flatMap evC) := by
  subst hM
  rw [List.length_append, List.flatMap_append]; exact h
def LeRel (w : World) (n : Nat) (v i : Value) (wr : World) : Prop := ∃ k : Nat, i = .int .i64 k ∧ k ≤ n ∧ wr.ownsRow w.heap.size 73 3 v (evR 5 k).length ((evR 5 k).flatMap evC) ∧ Below w.heap.size w wr
theorem evR_len_ (kind : Int) (n : Nat) : (evR kind n).length = n := by unfold evR; simp
set_option maxHeartbeats 1000000 in
theorem ref14LocateEvents_any (n : Nat) (l : List Ev) (w : World) (hn : n ≤ 1000000) (hl : locateE n = l) :
    Calls Tryz.prog 14 #[.int .i64 n] w (GivesE w l) := by
  cases ho : okN n with
  | false =>
    have hs : ¬ 3 ≤ n ∨ ¬ n ≤ 64 := by have h : ¬ (3 ≤ n ∧ n ≤ 64) := fun h => by rw [(okN_iff n).2 h] at ho; cases ho
                                       omega
    obtain rfl : l = [] := by rw [← hl]; unfold locateE; rw [ho]; rfl
    clear hl ho
    have HS := Lib.hid hs
    clear hs
    go_enter Tryz.func14, Tryz.ntmps14
    go_wp2
    go_loopw [3, 4] (fun v i wr => v = .slice none 0 0 ∧ i = .int .i64 0 ∧ wr = w) (fun _ i _ => n - (intOf i).toNat)
    case atStart => exact ⟨rfl, rfl, rfl⟩
    case round =>
      obtain ⟨rfl, rfl, rfl⟩ := hrel
      by_cases h0 : 0 < n
      · by_cases h3 : 3 ≤ n
        · have h64 : ¬ n ≤ 64 := by rcases HS.out with h | h; exact absurd h3 h; exact h
          go_wp2
          go_ret
          exact ⟨_, rfl, World.ownsRow_nil _ _ _ _, Below.refl _ _⟩
        · go_wp2
          go_ret
          exact ⟨_, rfl, World.ownsRow_nil _ _ _ _, Below.refl _ _⟩
      · go_wp2
        go_ret
        exact ⟨_, rfl, World.ownsRow_nil _ _ _ _, Below.refl _ _⟩
  | true =>
    have hs := (okN_iff n).1 ho
    have HL := Lib.hid (show l = evR 5 n by rw [← hl]; unfold locateE; rw [if_pos ho])
    obtain ⟨h3, h64⟩ := hs
    clear hl ho
    go_enter Tryz.func14, Tryz.ntmps14
    go_wp2
    go_loopw [3, 4] (fun v i wr => LeRel w n v i wr) (fun _ i _ => n - (intOf i).toNat)
    case atStart => exact ⟨0, rfl, Nat.zero_le _, World.ownsRow_nil _ _ _ _, Below.refl _ _⟩
    case round =>
      obtain ⟨k, rfl, hk, hrow, hb⟩ := hrel
      by_cases hgo : k < n
      · obtain ⟨L, hL⟩ : ∃ L, L = evR 5 k := ⟨_, rfl⟩
        have hLl : L.length ≤ 1000 := by rw [hL, evR_len_]; omega
        have HM := Lib.hid (show evR 5 (k + 1) = L ++ [⟨5, k, 0⟩] by rw [hL]; exact evR_succ 5 k)
        rw [← hL] at hrow
        have hbs := hb.size
        clear hL
        go_wp2_with (first
          | (at_builtin; refine wp_app_ev rfl _ _ rfl w.heap.size _ L.length (L.flatMap evC) rfl (hrow.alloc _) (some ⟨wr.heap.size, 0, none⟩) 1 [⟨5, k, 0⟩] (fun g => wr.heap.size ≤ g) rfl (lit_evE wr 5 k 0) (fun h => by cases h) (by simp; omega) (by simp; omega) ?_
             intro v' w2 hrow2 hgrow2
             have hb2 : Below w.heap.size w w2 := (hb.alloc hbs (.cells #[.int .i64 5, .int .i64 k, .int .i64 0] 73)).grown hgrow2 (by simp; omega) (fun g hg => (World.ownsRow.lt hrow g hg).1)
             have HW := Lib.hid (own_ev1 HM.out hrow2)
             clear hrow2 hgrow2 hrow hb))
        go_roundw
        case rel => exact ⟨k + 1, by go_num, hgo, HW.out, hb2⟩
        case measure => simp [intOf]; omega
      · obtain rfl : k = n := by omega
        have HW := Lib.hid hrow
        clear hrow
        go_wp2
        go_ret
        exact ⟨_, rfl, by rw [HL.out]; exact HW.out, hb⟩
def VeRel (w : World) (n : Nat) (v i : Value) (wr : World) : Prop := ∃ k : Nat, i = .int .i64 k ∧ k ≤ n ∧ wr.ownsRow w.heap.size 73 3 v (validB n k).length ((validB n k).flatMap evC) ∧ Below w.heap.size w wr
def VfRel (w : World) (n i : Nat) (v j : Value) (wr : World) : Prop := ∃ k : Nat, j = .int .i64 k ∧ k ≤ n ∧ wr.ownsRow w.heap.size 73 3 v (validB n i ++ otherE n i k).length ((validB n i ++ otherE n i k).flatMap evC) ∧ Below w.heap.size w wr
theorem vf_start {w wr : World} {n i : Nat} {v : Value} (h : wr.ownsRow w.heap.size 73 3 v (validB n i).length ((validB n i).flatMap evC)) : wr.ownsRow w.heap.size 73 3 v (validB n i ++ otherE n i 0).length ((validB n i ++ otherE n i 0).flatMap evC) := by
  have e : otherE n i 0 = [] := rfl
  rw [e, List.append_nil]; exact h
theorem vf_skip {n i k : Nat} (h : k = i ∨ k = nx n i) : validB n i ++ otherE n i (k + 1) = validB n i ++ otherE n i k := by rw [otherE_succ, if_pos h, List.append_nil]
theorem vf_add {n i k : Nat} (h1 : k ≠ i) (h2 : k ≠ nx n i) : validB n i ++ otherE n i (k + 1) = (validB n i ++ otherE n i k) ++ [⟨4, i, k⟩] := by rw [otherE_succ, if_neg (by omega), List.append_assoc]
theorem vf_len {n i k : Nat} (hn : n ≤ 64) (hi : i ≤ n) (hk : k ≤ n) : (validB n i ++ otherE n i k).length ≤ 8192 := by
  have h1 := validB_len n i
  have h2 := otherE_len n i k
  have h3 : i * n ≤ 64 * 64 := Nat.mul_le_mul (by omega) hn
  rw [List.length_append]; omega
set_option maxHeartbeats 2000000 in
theorem ref14ValidEvents_any (n : Nat) (l : List Ev) (w : World) (hn : n ≤ 1000000) (hl : validE n = l) :
    Calls Tryz.prog 13 #[.int .i64 n] w (GivesE w l) := by
  cases ho : okN n with
  | false =>
    have hs : ¬ 3 ≤ n ∨ ¬ n ≤ 64 := by have h : ¬ (3 ≤ n ∧ n ≤ 64) := fun h => by rw [(okN_iff n).2 h] at ho; cases ho
                                       omega
    obtain rfl : l = [] := by rw [← hl]; unfold validE; rw [ho]; rfl
    clear hl ho
    have HS := Lib.hid hs
    clear hs
    go_enter Tryz.func13, Tryz.ntmps13
    go_wp2
    go_loopw [3, 4] (fun v i wr => v = .slice none 0 0 ∧ i = .int .i64 0 ∧ wr = w) (fun _ i _ => n - (intOf i).toNat)
    case atStart => exact ⟨rfl, rfl, rfl⟩
    case round =>
      obtain ⟨rfl, rfl, rfl⟩ := hrel
      by_cases h0 : 0 < n
      · by_cases h3 : 3 ≤ n
        · have h64 : ¬ n ≤ 64 := by rcases HS.out with h | h; exact absurd h3 h; exact h
          go_wp2
          go_ret
          exact ⟨_, rfl, World.ownsRow_nil _ _ _ _, Below.refl _ _⟩
        · go_wp2
          go_ret
          exact ⟨_, rfl, World.ownsRow_nil _ _ _ _, Below.refl _ _⟩
      · go_wp2
        go_ret
        exact ⟨_, rfl, World.ownsRow_nil _ _ _ _, Below.refl _ _⟩
  | true =>
    have hs := (okN_iff n).1 ho
    have HL := Lib.hid (show l = validB n n by rw [← hl]; unfold validE; rw [if_pos ho])
    obtain ⟨h3, h64⟩ := hs
    have d64 : decide ((n : Int) ≤ 64) = true := decide_eq_true (by omega)
    clear hl ho
    go_enter Tryz.func13, Tryz.ntmps13
    go_wp2
    go_loopw [3, 4] (fun v i wr => VeRel w n v i wr) (fun _ i _ => n - (intOf i).toNat)
    case atStart => exact ⟨0, rfl, Nat.zero_le _, World.ownsRow_nil _ _ _ _, Below.refl _ _⟩
    case round =>
      obtain ⟨i, rfl, hi, hrow, hb⟩ := hrel
      by_cases hgo : i < n
      · obtain ⟨q, hq⟩ : ∃ q, q = nx n i := ⟨_, rfl⟩
        have hrem : ((i : Int) + 1).tmod (n : Int) = (q : Int) := by rw [hq]; exact tmod_nx hgo
        have hsum : IntKind.i64.wrap ((i : Int) + 1) = (i : Int) + 1 := wrap_i64' (by omega) (by omega)
        have HQ := Lib.hid hq
        have HW0 := Lib.hid (vf_start hrow)
        clear hq hrow
        go_wp2
        go_loopw [3, 5] (fun v j wr => VfRel w n i v j wr) (fun _ j _ => n - (intOf j).toNat)
        case atStart => exact ⟨0, rfl, Nat.zero_le _, HW0.out, hb⟩
        case round =>
          clear HW0 hb
          obtain ⟨j, rfl, hj, hrow, hb⟩ := hrel
          have hlen := vf_len h64 hi hj
          by_cases hgj : j < n
          · by_cases e1 : j = i
            · have d1 : ((j : Int) != (i : Int)) = false := by rw [bne_eq_false_iff_eq]; omega
              have HI := Lib.hid (vf_skip (n := n) (i := i) (k := j) (.inl e1))
              have HW := Lib.hid hrow
              clear e1 hrow hlen
              go_wp2
              go_roundw
              case rel => exact ⟨j + 1, by go_num, hgj, by rw [HI.out]; exact HW.out, hb⟩
              case measure => simp [intOf]; omega
            · have d1 : ((j : Int) != (i : Int)) = true := by rw [bne_iff_ne]; omega
              by_cases e2 : j = q
              · have d2 : ((j : Int) != (q : Int)) = false := by rw [bne_eq_false_iff_eq]; omega
                have HI := Lib.hid (vf_skip (n := n) (i := i) (k := j) (.inr (by rw [e2, HQ.out])))
                have HW := Lib.hid hrow
                clear e1 e2 hrow hlen
                go_wp2
                go_roundw
                case rel => exact ⟨j + 1, by go_num, hgj, by rw [HI.out]; exact HW.out, hb⟩
                case measure => simp [intOf]; omega
              · have d2 : ((j : Int) != (q : Int)) = true := by rw [bne_iff_ne]; omega
                obtain ⟨L, hL⟩ : ∃ L, L = validB n i ++ otherE n i j := ⟨_, rfl⟩
                have HM := Lib.hid (show validB n i ++ otherE n i (j + 1) = L ++ [⟨4, i, j⟩] by rw [hL]; exact vf_add e1 (by rw [← HQ.out]; exact e2))
                rw [← hL] at hrow hlen
                have hbs := hb.size
                clear hL e1 e2
                go_wp2_with (first
                  | (at_builtin; refine wp_app_ev rfl _ _ rfl w.heap.size _ L.length (L.flatMap evC) rfl (hrow.alloc _) (some ⟨wr.heap.size, 0, none⟩) 1 [⟨4, i, j⟩] (fun g => wr.heap.size ≤ g) rfl (lit_evE wr 4 i j) (fun h => by cases h) (by simp; omega) (by simp; omega) ?_
                     intro v' w2 hrow2 hgrow2
                     have hb2 : Below w.heap.size w w2 := (hb.alloc hbs (.cells #[.int .i64 4, .int .i64 i, .int .i64 j] 73)).grown hgrow2 (by simp; omega) (fun g hg => (World.ownsRow.lt hrow g hg).1)
                     have HW := Lib.hid (own_ev1 HM.out hrow2)
                     clear hrow2 hgrow2 hrow hb hlen))
                go_roundw
                case rel => exact ⟨j + 1, by go_num, hgj, HW.out, hb2⟩
                case measure => simp [intOf]; omega
          · have HW := Lib.hid (show wr.ownsRow w.heap.size 73 3 _ (validB n (i + 1)).length ((validB n (i + 1)).flatMap evC) by rw [validB_succ]; have h := hrow; rw [show j = n by omega] at h; exact h)
            clear hrow hlen
            go_wp2
            go_roundw
            case rel => exact ⟨i + 1, by go_num, hgo, HW.out, hb⟩
            case measure => simp [intOf]; omega
      · obtain rfl : i = n := by omega
        have HW := Lib.hid hrow
        clear hrow
        go_wp2
        go_ret
        exact ⟨_, rfl, by rw [HL.out]; exact HW.out, hb⟩
end Go.Proofs.YthmkllpdkcmccaaGreatDoor
namespace Go.Proofs.YthmkllpdkcmccaaGreatDoor
open Go.RowKit Go.Maps
set_option maxRecDepth 100000
set_option linter.unusedVariables false
set_option linter.unusedSimpArgs false

end Go.Proofs.YthmkllpdkcmccaaGreatDoor
namespace Go.Proofs.YthmkllpdkcmccaaGreatDoor
open Go.RowKit Go.Maps
set_option maxRecDepth 100000
set_option linter.unusedVariables false
set_option linter.unusedSimpArgs false

theorem own_evA {w : World} {base : Nat} {v : Value} {L M E : List Ev} (hM : M = L ++ E) (h : w.ownsRow base 73 3 v (L.length + E.length) (L.flatMap evC ++ E.flatMap evC)) : w.ownsRow base 73 3 v M.length (M.flatMap evC) := by
  subst hM
  rw [List.length_append, List.flatMap_append]; exact h
theorem own_evN {w : World} {base : Nat} {v : Value} {l : List Ev} (h : w.ownsRow base 73 3 v l.length (l.flatMap evC)) : ∃ A c, v = .slice A l.length c ∧ (A = none → c = 0) ∧ EvsR w (fun g => base ≤ g) A l := by
  obtain ⟨A, c, e, _, _, hev⟩ := own_evs h
  refine ⟨A, c, e, fun hA => ?_, hev.imp fun g hg => (World.ownsRow.lt h g hg).1⟩
  subst hA
  rcases h.2 with ⟨h0, _⟩ | ⟨g, cap, cur, h0, _⟩
  · rw [e] at h0; injection h0
  · rw [e] at h0; cases h0
def E6Rel (w : World) (rs : List Rg) (v i : Value) (wr : World) : Prop := ∃ k : Nat, i = .int .i64 k ∧ k ≤ rs.length ∧ wr.ownsRow w.heap.size 73 3 v (evsV 0 (rs.take k)).length ((evsV 0 (rs.take k)).flatMap evC) ∧ Below w.heap.size w wr
set_option maxHeartbeats 2000000 in
theorem ref16ValidEvents_any (A : Option Addr) (n c : Nat) (rs : List Rg) (T : Nat → Prop) (w : World) (ha : RowR w T 3 rgC A rs) (hn : n = rs.length) (h64 : n ≤ 64) (hv : ∀ x ∈ rs, 0 ≤ x.v ∧ x.v ≤ 64) :
    Calls Tryz.prog 34 #[.slice A n c] w (GivesE w (evsV 0 rs)) := by
  have HN := Lib.hid hn
  have HV := Lib.hid hv
  clear hn hv
  go_enter Tryz.func34, Tryz.ntmps34
  go_wp2
  go_loopw [3, 4] (fun v i wr => E6Rel w rs v i wr) (fun _ i _ => n - (intOf i).toNat)
  case atStart => exact ⟨0, rfl, Nat.zero_le _, World.ownsRow_nil _ _ _ _, Below.refl _ _⟩
  case round =>
    obtain ⟨k, rfl, hk, hrow, hb⟩ := hrel
    rw [← HN.out] at hk
    by_cases hgo : k < n
    · have hgo2 : k < rs.length := by rw [← HN.out]; exact hgo
      have hlen := evsV_len (rs.take k) 0
      rw [List.length_take] at hlen
      obtain ⟨L, hL⟩ : ∃ L, L = evsV 0 (rs.take k) := ⟨_, rfl⟩
      have HM := Lib.hid (show evsV 0 (rs.take (k + 1)) = L ++ evV k (rs[k]'hgo2) by rw [hL]; exact evsV_snoc hgo2)
      have HVk := Lib.hid (HV.out _ (List.getElem_mem hgo2))
      rw [← hL] at hrow hlen
      have hL2 : L.length ≤ 300000 := by
        have : 4097 * min k rs.length ≤ 4097 * 64 := Nat.mul_le_mul (Nat.le_refl _) (by omega)
        omega
      have hbs := hb.size
      clear hL hlen
      obtain ⟨b, o, rfl, _, c0, c1, c2⟩ := ha.rg2 hgo2
      have hbw : b < w.heap.size := lt_of_cell c1
      have c1 := (hb.cell (p := ⟨b, o + k * 3 + 1, none⟩) hbw).trans c1
      have hdis : ∀ q, _ = some q → q ≠ b := fun q hq e => by have := (World.ownsRow.lt hrow q hq).1; omega
      clear c0 c2
      generalize rs[k]'hgo2 = g at *
      obtain ⟨d, vv, A2, cp, l⟩ := g
      have hv2 := HVk.out
      simp only at c1 hv2
      clear hgo2 ha
      obtain ⟨L1, hL1⟩ : ∃ L1, L1 = L ++ [⟨7, k, 0⟩] := ⟨_, rfl⟩
      have HL1 := Lib.hid hL1
      have hL1l : L1.length = L.length + 1 := by rw [hL1]; simp
      have HL1l := Lib.hid hL1l
      have c1a : (wr.alloc (.cells #[.int .i64 7, .int .i64 k, .int .i64 0] 73)).cell? ⟨b, o + k * 3 + 1, none⟩ = some (.int .i64 vv) := Lib.cell?_alloc_some _ c1
      clear hL1 hL1l
      by_cases ev : vv = 0
      · subst ev
        have HM2 := Lib.hid (show evsV 0 (rs.take (k + 1)) = L1 ++ [⟨4, 0, 2⟩] by rw [HM.out, HL1.out, List.append_assoc]; unfold evV; rw [if_pos rfl]; rfl)
        go_wp2_with (first
          | (at_builtin; refine wp_app_ev rfl _ _ rfl w.heap.size _ L.length (L.flatMap evC) rfl (hrow.alloc _) (some ⟨wr.heap.size, 0, none⟩) 1 [⟨7, k, 0⟩] (fun g => wr.heap.size ≤ g) rfl (lit_evE wr 7 k 0) (fun h => by cases h) (by simp; omega) (by simp; omega) ?_
             intro v' w2 hrow2 hgrow2
             have hb2 : Below w.heap.size w w2 := (hb.alloc hbs (.cells #[.int .i64 7, .int .i64 k, .int .i64 0] 73)).grown hgrow2 (by simp; omega) (fun g hg => (World.ownsRow.lt hrow g hg).1)
             have c1b : w2.cell? ⟨b, o + k * 3 + 1, none⟩ = some (.int .i64 0) := (World.cell?_of_block (hgrow2.block b (lt_of_cell c1a) (fun e => hdis _ e.symm rfl))).trans c1a
             have HW := Lib.hid (own_ev1 HL1.out hrow2)
             have hbs2 := hb2.size
             clear hrow2 hgrow2 hrow hb)
          | (at_builtin; refine wp_app_ev rfl _ _ rfl w.heap.size _ L1.length (L1.flatMap evC) rfl (HW.out.alloc _) (some ⟨w2.heap.size, 0, none⟩) 1 [⟨4, 0, 2⟩] (fun g => w2.heap.size ≤ g) rfl (lit_evE w2 4 0 2) (fun h => by cases h) (by have := HL1l.out; simp; omega) (by simp; omega) ?_
             intro v'' w3 hrow3 hgrow3
             have hb3 : Below w.heap.size w w3 := (hb2.alloc hbs2 (.cells #[.int .i64 4, .int .i64 0, .int .i64 2] 73)).grown hgrow3 (by simp; omega) (fun g hg => (World.ownsRow.lt HW.out g hg).1)
             have HW3 := Lib.hid (own_ev1 HM2.out hrow3)
             clear hrow3 hgrow3 HW))
        go_roundw
        case rel => exact ⟨k + 1, by go_num, by rw [← HN.out]; omega, HW3.out, hb3⟩
        case measure => simp [intOf]; omega
      · obtain ⟨m, rfl⟩ : ∃ m : Nat, vv = m := ⟨vv.toNat, by omega⟩
        have d1 : ((m : Int) == 0) = false := by rw [beq_eq_false_iff_ne]; exact ev
        obtain ⟨E, hE⟩ : ∃ E, validE m = E := ⟨_, rfl⟩
        have hEl := validE_len m
        rw [hE] at hEl
        have HM2 := Lib.hid (show evsV 0 (rs.take (k + 1)) = L1 ++ E by rw [HM.out, HL1.out, List.append_assoc]; unfold evV; rw [if_neg ev, ← hE]; rfl)
        have HE := Lib.hid hE
        have hm : m ≤ 64 := by omega
        clear hE ev
        go_wp2_with (first
          | (at_builtin; refine wp_app_ev rfl _ _ rfl w.heap.size _ L.length (L.flatMap evC) rfl (hrow.alloc _) (some ⟨wr.heap.size, 0, none⟩) 1 [⟨7, k, 0⟩] (fun g => wr.heap.size ≤ g) rfl (lit_evE wr 7 k 0) (fun h => by cases h) (by simp; omega) (by simp; omega) ?_
             intro v' w2 hrow2 hgrow2
             have hb2 : Below w.heap.size w w2 := (hb.alloc hbs (.cells #[.int .i64 7, .int .i64 k, .int .i64 0] 73)).grown hgrow2 (by simp; omega) (fun g hg => (World.ownsRow.lt hrow g hg).1)
             have c1b : w2.cell? ⟨b, o + k * 3 + 1, none⟩ = some (.int .i64 m) := (World.cell?_of_block (hgrow2.block b (lt_of_cell c1a) (fun e => hdis _ e.symm rfl))).trans c1a
             have HW := Lib.hid (own_ev1 HL1.out hrow2)
             have hbs2 := hb2.size
             clear hrow2 hgrow2 hrow hb))
        refine (ref14ValidEvents_any m E w2 (by omega) HE.out).mono ?_
        rintro e w3 ⟨v3, rfl, hrow3, hb3⟩
        obtain ⟨A3, c3, hv3, hn3, hev3⟩ := own_evN hrow3
        subst hv3
        have hb23 := hb2.trans (hb3.mono hbs2)
        have hrowL := row_keep HW.out (fun q hq => hb3.block q (World.ownsRow.lt HW.out q hq).2)
        have hbs3 := hb23.size
        go_wp2_with (first
          | (at_builtin; refine wp_app_ev rfl _ _ rfl w.heap.size _ L1.length (L1.flatMap evC) rfl hrowL A3 c3 E (fun g => w2.heap.size ≤ g) rfl hev3 hn3 (by have := HL1l.out; omega) hbs3 ?_
             intro v'' w4 hrow4 hgrow4
             have hb4 : Below w.heap.size w w4 := hb23.grown hgrow4 hbs3 (fun g hg => (World.ownsRow.lt hrowL g hg).1)
             have HW4 := Lib.hid (own_evA HM2.out hrow4)
             clear hrow4 hgrow4 HW))
        go_roundw
        case rel => exact ⟨k + 1, by go_num, by rw [← HN.out]; omega, HW4.out, hb4⟩
        case measure => simp [intOf]; omega
    · have HE := Lib.hid (show rs.take k = rs from List.take_of_length_le (by rw [← HN.out]; omega))
      rw [HE.out] at hrow
      have HW := Lib.hid hrow
      clear ha hrow
      go_wp2
      go_ret
      exact ⟨_, rfl, HW.out, hb⟩
def E7Rel (w : World) (rs : List Rg) (v i : Value) (wr : World) : Prop := ∃ k : Nat, i = .int .i64 k ∧ k ≤ rs.length ∧ wr.ownsRow w.heap.size 73 3 v (evsM 0 (rs.take k)).length ((evsM 0 (rs.take k)).flatMap evC) ∧ Below w.heap.size w wr
set_option maxHeartbeats 2000000 in
theorem ref16MemberEvents_any (A : Option Addr) (n c : Nat) (rs : List Rg) (T : Nat → Prop) (w : World) (ha : RowR w T 3 rgC A rs) (hn : n = rs.length) (h64 : n ≤ 64) (hv : ∀ x ∈ rs, 0 ≤ x.v ∧ x.v ≤ 64) :
    Calls Tryz.prog 35 #[.slice A n c] w (GivesE w (evsM 0 rs)) := by
  have HN := Lib.hid hn
  have HV := Lib.hid hv
  clear hn hv
  go_enter Tryz.func35, Tryz.ntmps35
  go_wp2
  go_loopw [3, 4] (fun v i wr => E7Rel w rs v i wr) (fun _ i _ => n - (intOf i).toNat)
  case atStart => exact ⟨0, rfl, Nat.zero_le _, World.ownsRow_nil _ _ _ _, Below.refl _ _⟩
  case round =>
    obtain ⟨k, rfl, hk, hrow, hb⟩ := hrel
    rw [← HN.out] at hk
    by_cases hgo : k < n
    · have hgo2 : k < rs.length := by rw [← HN.out]; exact hgo
      have hlen := evsM_len (rs.take k) 0
      rw [List.length_take] at hlen
      obtain ⟨L, hL⟩ : ∃ L, L = evsM 0 (rs.take k) := ⟨_, rfl⟩
      have HM := Lib.hid (show evsM 0 (rs.take (k + 1)) = L ++ evM k (rs[k]'hgo2) by rw [hL]; exact evsM_snoc hgo2)
      have HVk := Lib.hid (HV.out _ (List.getElem_mem hgo2))
      rw [← hL] at hrow hlen
      have hL2 : L.length ≤ 300000 := by
        have : 4097 * min k rs.length ≤ 4097 * 64 := Nat.mul_le_mul (Nat.le_refl _) (by omega)
        omega
      have hbs := hb.size
      clear hL hlen
      obtain ⟨b, o, rfl, _, c0, c1, c2⟩ := ha.rg2 hgo2
      have hbw : b < w.heap.size := lt_of_cell c1
      have c1 := (hb.cell (p := ⟨b, o + k * 3 + 1, none⟩) hbw).trans c1
      have hdis : ∀ q, _ = some q → q ≠ b := fun q hq e => by have := (World.ownsRow.lt hrow q hq).1; omega
      clear c0 c2
      generalize rs[k]'hgo2 = g at *
      obtain ⟨d, vv, A2, cp, l⟩ := g
      have hv2 := HVk.out
      simp only at c1 hv2
      clear hgo2 ha
      obtain ⟨L1, hL1⟩ : ∃ L1, L1 = L ++ [⟨7, k, 1⟩] := ⟨_, rfl⟩
      have HL1 := Lib.hid hL1
      have hL1l : L1.length = L.length + 1 := by rw [hL1]; simp
      have HL1l := Lib.hid hL1l
      have c1a : (wr.alloc (.cells #[.int .i64 7, .int .i64 k, .int .i64 1] 73)).cell? ⟨b, o + k * 3 + 1, none⟩ = some (.int .i64 vv) := Lib.cell?_alloc_some _ c1
      clear hL1 hL1l
      by_cases ev : vv = 0
      · subst ev
        have HM2 := Lib.hid (show evsM 0 (rs.take (k + 1)) = L1 ++ [⟨6, 0, 0⟩] by rw [HM.out, HL1.out, List.append_assoc]; unfold evM; rw [if_pos rfl]; rfl)
        go_wp2_with (first
          | (at_builtin; refine wp_app_ev rfl _ _ rfl w.heap.size _ L.length (L.flatMap evC) rfl (hrow.alloc _) (some ⟨wr.heap.size, 0, none⟩) 1 [⟨7, k, 1⟩] (fun g => wr.heap.size ≤ g) rfl (lit_evE wr 7 k 1) (fun h => by cases h) (by simp; omega) (by simp; omega) ?_
             intro v' w2 hrow2 hgrow2
             have hb2 : Below w.heap.size w w2 := (hb.alloc hbs (.cells #[.int .i64 7, .int .i64 k, .int .i64 1] 73)).grown hgrow2 (by simp; omega) (fun g hg => (World.ownsRow.lt hrow g hg).1)
             have c1b : w2.cell? ⟨b, o + k * 3 + 1, none⟩ = some (.int .i64 0) := (World.cell?_of_block (hgrow2.block b (lt_of_cell c1a) (fun e => hdis _ e.symm rfl))).trans c1a
             have HW := Lib.hid (own_ev1 HL1.out hrow2)
             have hbs2 := hb2.size
             clear hrow2 hgrow2 hrow hb)
          | (at_builtin; refine wp_app_ev rfl _ _ rfl w.heap.size _ L1.length (L1.flatMap evC) rfl (HW.out.alloc _) (some ⟨w2.heap.size, 0, none⟩) 1 [⟨6, 0, 0⟩] (fun g => w2.heap.size ≤ g) rfl (lit_evE w2 6 0 0) (fun h => by cases h) (by have := HL1l.out; simp; omega) (by simp; omega) ?_
             intro v'' w3 hrow3 hgrow3
             have hb3 : Below w.heap.size w w3 := (hb2.alloc hbs2 (.cells #[.int .i64 6, .int .i64 0, .int .i64 0] 73)).grown hgrow3 (by simp; omega) (fun g hg => (World.ownsRow.lt HW.out g hg).1)
             have HW3 := Lib.hid (own_ev1 HM2.out hrow3)
             clear hrow3 hgrow3 HW))
        go_roundw
        case rel => exact ⟨k + 1, by go_num, by rw [← HN.out]; omega, HW3.out, hb3⟩
        case measure => simp [intOf]; omega
      · obtain ⟨m, rfl⟩ : ∃ m : Nat, vv = m := ⟨vv.toNat, by omega⟩
        have d1 : ((m : Int) == 0) = false := by rw [beq_eq_false_iff_ne]; exact ev
        obtain ⟨E, hE⟩ : ∃ E, locateE m = E := ⟨_, rfl⟩
        have hEl := locateE_len m
        rw [hE] at hEl
        have HM2 := Lib.hid (show evsM 0 (rs.take (k + 1)) = L1 ++ E by rw [HM.out, HL1.out, List.append_assoc]; unfold evM; rw [if_neg ev, ← hE]; rfl)
        have HE := Lib.hid hE
        have hm : m ≤ 64 := by omega
        clear hE ev
        go_wp2_with (first
          | (at_builtin; refine wp_app_ev rfl _ _ rfl w.heap.size _ L.length (L.flatMap evC) rfl (hrow.alloc _) (some ⟨wr.heap.size, 0, none⟩) 1 [⟨7, k, 1⟩] (fun g => wr.heap.size ≤ g) rfl (lit_evE wr 7 k 1) (fun h => by cases h) (by simp; omega) (by simp; omega) ?_
             intro v' w2 hrow2 hgrow2
             have hb2 : Below w.heap.size w w2 := (hb.alloc hbs (.cells #[.int .i64 7, .int .i64 k, .int .i64 1] 73)).grown hgrow2 (by simp; omega) (fun g hg => (World.ownsRow.lt hrow g hg).1)
             have c1b : w2.cell? ⟨b, o + k * 3 + 1, none⟩ = some (.int .i64 m) := (World.cell?_of_block (hgrow2.block b (lt_of_cell c1a) (fun e => hdis _ e.symm rfl))).trans c1a
             have HW := Lib.hid (own_ev1 HL1.out hrow2)
             have hbs2 := hb2.size
             clear hrow2 hgrow2 hrow hb))
        refine (ref14LocateEvents_any m E w2 (by omega) HE.out).mono ?_
        rintro e w3 ⟨v3, rfl, hrow3, hb3⟩
        obtain ⟨A3, c3, hv3, hn3, hev3⟩ := own_evN hrow3
        subst hv3
        have hb23 := hb2.trans (hb3.mono hbs2)
        have hrowL := row_keep HW.out (fun q hq => hb3.block q (World.ownsRow.lt HW.out q hq).2)
        have hbs3 := hb23.size
        go_wp2_with (first
          | (at_builtin; refine wp_app_ev rfl _ _ rfl w.heap.size _ L1.length (L1.flatMap evC) rfl hrowL A3 c3 E (fun g => w2.heap.size ≤ g) rfl hev3 hn3 (by have := HL1l.out; omega) hbs3 ?_
             intro v'' w4 hrow4 hgrow4
             have hb4 : Below w.heap.size w w4 := hb23.grown hgrow4 hbs3 (fun g hg => (World.ownsRow.lt hrowL g hg).1)
             have HW4 := Lib.hid (own_evA HM2.out hrow4)
             clear hrow4 hgrow4 HW))
        go_roundw
        case rel => exact ⟨k + 1, by go_num, by rw [← HN.out]; omega, HW4.out, hb4⟩
        case measure => simp [intOf]; omega
    · have HE := Lib.hid (show rs.take k = rs from List.take_of_length_le (by rw [← HN.out]; omega))
      rw [HE.out] at hrow
      have HW := Lib.hid hrow
      clear ha hrow
      go_wp2
      go_ret
      exact ⟨_, rfl, HW.out, hb⟩
end Go.Proofs.YthmkllpdkcmccaaGreatDoor
namespace Go.Proofs.YthmkllpdkcmccaaGreatDoor
open Go.RowKit
set_option maxRecDepth 100000
set_option linter.unusedVariables false
set_option linter.unusedSimpArgs false

theorem dst_own {base n : Nat} {t : TypeId} {k : Nat} {xs : List Value} : DStab (fun v w => w.ownsRow base t k v n xs) := fun v w w' h hb => row_keep h fun g hg => hb.block g (h.lt g hg).2
theorem ref16ValidEvents_c (A : Option Addr) (n c : Nat) (rs : List Rg) (E : List Ev) (T : Nat → Prop) (w : World) (ha : RowR w T 3 rgC A rs) (hn : n = rs.length) (h64 : n ≤ 64) (hv : ∀ x ∈ rs, 0 ≤ x.v ∧ x.v ≤ 64) (hE : evsV 0 rs = E) :
    Calls Tryz.prog 34 #[.slice A n c] w (GivesE w E) := hE ▸ ref16ValidEvents_any A n c rs T w ha hn h64 hv
theorem ref16MemberEvents_c (A : Option Addr) (n c : Nat) (rs : List Rg) (E : List Ev) (T : Nat → Prop) (w : World) (ha : RowR w T 3 rgC A rs) (hn : n = rs.length) (h64 : n ≤ 64) (hv : ∀ x ∈ rs, 0 ≤ x.v ∧ x.v ≤ 64) (hE : evsM 0 rs = E) :
    Calls Tryz.prog 35 #[.slice A n c] w (GivesE w E) := hE ▸ ref16MemberEvents_any A n c rs T w ha hn h64 hv
set_option maxHeartbeats 2000000 in
theorem ref19Events_any (op vx pts : Int) (hA : Option Addr) (hn hc : Nat) (hrs : List Rg) (E : List Ev) (T : Nat → Prop) (w : World) (hh : RowR w T 3 rgC hA hrs) (hhn : hn = hrs.length) (h64 : op = 4 → hn ≤ 64) (hv : op = 4 → ∀ x ∈ hrs, 0 ≤ x.v ∧ x.v ≤ 64) (hvs : op = 3 → 0 ≤ vx ∧ vx ≤ 64) (hE : evE op vx (hrs.map rgK) = E) :
    Calls Tryz.prog 18 #[.agg #[.int .i64 op, .int .i64 vx, .slice hA hn hc, .int .i64 pts]] w (GivesE w E) := by
  obtain ⟨W, hW⟩ : ∃ W, W = w.alloc (.cells #[.int .i64 op, .int .i64 vx, .slice hA hn hc, .int .i64 pts] 37) := ⟨_, rfl⟩
  obtain ⟨h0, _, g0, g1, g2, g3⟩ := box4 hW
  obtain ⟨B, hB⟩ : ∃ b, b = w.heap.size := ⟨_, rfl⟩
  rw [← hB] at g0 g1 g2 g3
  have HH := Lib.hid (hh.next h0)
  have HHN := Lib.hid hhn
  have HW := Lib.hid hW
  have HB := Lib.hid hB
  clear hW hB hh hhn
  by_cases h3 : op = 3
  · subst h3
    obtain ⟨n, hn2⟩ : ∃ n : Nat, vx = n := ⟨vx.toNat, by have := hvs rfl; omega⟩
    have hn64 : n ≤ 64 := by have := hvs rfl; omega
    subst hn2
    obtain ⟨E1, hE1⟩ : ∃ l, validE n = l := ⟨_, rfl⟩
    obtain ⟨E2, hE2⟩ : ∃ l, locateE n = l := ⟨_, rfl⟩
    have hl1 := validE_len n
    have hl2 := locateE_len n
    rw [hE1] at hl1
    rw [hE2] at hl2
    have HE := Lib.hid (show E = E1 ++ E2 by rw [← hE, evE_3, Int.toNat_natCast, hE1, hE2])
    have HE1 := Lib.hid hE1
    have HE2 := Lib.hid hE2
    have HL := Lib.hid (And.intro hl1 hl2)
    clear hE hE1 hE2 hl1 hl2 hvs h64 hv
    go_enter Tryz.func18, Tryz.ntmps18
    go_upto_region 1 with (fail)
    rw [← HW.out, ← HB.out]
    go_wp2
    refine dir_plain (by kernel_rfl) 6 [[], [(7, 0)], [(8, 1)], [], [(10, 3)], [(11, 4)], [(9, 2), (12, 5)], [(13, 6)]] [(7, 0), (8, 1), (9, 2), (10, 3), (11, 4), (12, 5)] [
        (fun v _ => v = .pointer (some ⟨B, 1, none⟩)),
        (fun v _ => v = .int .i64 (n : Nat)),
        (fun v w => w.ownsRow W.heap.size 73 3 v E1.length (E1.flatMap evC)),
        (fun v _ => v = .pointer (some ⟨B, 1, none⟩)),
        (fun v _ => v = .int .i64 (n : Nat)),
        (fun v w => w.ownsRow W.heap.size 73 3 v E2.length (E2.flatMap evC))
      ] (by kernel_rfl) (by kernel_rfl) (by kernel_rfl) (by decide) ⟨dstab_eq, dstab_eq, dst_own, dstab_eq, dstab_eq, dst_own, trivial⟩ ?steps ?fin
    case steps =>
      refine ⟨?_, ?_, ?_, ?_, ?_, ?_, trivial⟩
      · intro vs g w2 hI hF hR K hK
        simp only [Facts, fill, Act.put, z1, z2, z3, z4, z5, Nat.reduceAdd] at hF hR hK ⊢
        go_simp
        exact hK _ () _ hI (Below.refl _ _) rfl
      · intro vs g w2 hI hF hR K hK
        simp only [Facts, fill, Act.put, z1, z2, z3, z4, z5, Nat.reduceAdd] at hF hR hK ⊢
        obtain ⟨r0, -⟩ := hR
        generalize vs 0 = x0 at *
        subst r0
        have k0 := (hI.cell (lt_of_cell g1)).trans g1
        go_simp
        exact hK _ () _ hI (Below.refl _ _) rfl
      · intro vs g w2 hI hF hR K hK
        simp only [Facts, fill, Act.put, z1, z2, z3, z4, z5, Nat.reduceAdd] at hF hR hK ⊢
        obtain ⟨r1, -⟩ := hR
        generalize vs 1 = x1 at *
        subst r1
        go_simp
        refine (ref14ValidEvents_any n E1 w2 (by omega) HE1.out).mono ?_
        rintro e w3 ⟨v3, rfl, hown3, hb⟩
        exact hK _ () _ (hI.trans (hb.mono hI.size)) hb (hown3.mono hI.size)
      · intro vs g w2 hI hF hR K hK
        simp only [Facts, fill, Act.put, z1, z2, z3, z4, z5, Nat.reduceAdd] at hF hR hK ⊢
        go_simp
        exact hK _ () _ hI (Below.refl _ _) rfl
      · intro vs g w2 hI hF hR K hK
        simp only [Facts, fill, Act.put, z1, z2, z3, z4, z5, Nat.reduceAdd] at hF hR hK ⊢
        obtain ⟨r3, -⟩ := hR
        generalize vs 3 = x3 at *
        subst r3
        have k0 := (hI.cell (lt_of_cell g1)).trans g1
        go_simp
        exact hK _ () _ hI (Below.refl _ _) rfl
      · intro vs g w2 hI hF hR K hK
        simp only [Facts, fill, Act.put, z1, z2, z3, z4, z5, Nat.reduceAdd] at hF hR hK ⊢
        obtain ⟨r4, -⟩ := hR
        generalize vs 4 = x4 at *
        subst r4
        go_simp
        refine (ref14LocateEvents_any n E2 w2 (by omega) HE2.out).mono ?_
        rintro e w3 ⟨v3, rfl, hown3, hb⟩
        exact hK _ () _ (hI.trans (hb.mono hI.size)) hb (hown3.mono hI.size)
    case fin =>
      intro vs w2 hI hR
      have r2 := hR 2 (by decide)
      have r5 := hR 5 (by decide)
      simp only [fill, Act.put, z1, z2, z3, z4, z5] at r2 r5 ⊢
      clear hR
      generalize vs 2 = x2 at *
      generalize vs 5 = x5 at *
      obtain ⟨A5, c5, h5, hn5, hev5⟩ := own_evN r5
      subst h5
      refine wpOps_step rfl rfl ?_
      refine op_app_row elemEv _ _ rfl W.heap.size _ E1.length (E1.flatMap evC) rfl r2 A5 c5 E2.length E2 _ rfl rfl hev5.row hn5 (by have := HL.out; omega) hI.size ?_
      intro v' w6 hown6 hgrow6 hnew6
      refine wpOps_step rfl rfl ?_
      go_simp
      refine NoPanic.normal ?_
      go_wp2
      go_ret
      exact ⟨_, rfl, (own_evA HE.out hown6).mono h0.size, h0.trans ((hI.grown hgrow6 hI.size (fun g hg => (World.ownsRow.lt r2 g hg).1)).mono h0.size)⟩
  · by_cases h4 : op = 4
    · subst h4
      have hn64 := h64 rfl
      have HV := Lib.hid (hv rfl)
      obtain ⟨E1, hE1⟩ : ∃ l, evsV 0 hrs = l := ⟨_, rfl⟩
      obtain ⟨E2, hE2⟩ : ∃ l, evsM 0 hrs = l := ⟨_, rfl⟩
      have hl1 := evsV_len hrs 0
      have hl2 := evsM_len hrs 0
      rw [hE1] at hl1
      rw [hE2] at hl2
      have h5 : 4097 * hrs.length ≤ 4097 * 64 := Nat.mul_le_mul (Nat.le_refl _) (by rw [← HHN.out]; exact hn64)
      have HE := Lib.hid (show E = E1 ++ E2 by rw [← hE, evE_4 rfl, hE1, hE2])
      have HE1 := Lib.hid hE1
      have HE2 := Lib.hid hE2
      have HL := Lib.hid (show E1.length ≤ 262208 ∧ E2.length ≤ 262208 by omega)
      clear hE hE1 hE2 hl1 hl2 h5 hvs h64 hv h3
      go_enter Tryz.func18, Tryz.ntmps18
      go_upto_region 1 with (fail)
      rw [← HW.out, ← HB.out]
      go_wp2
      refine dir_plain (by kernel_rfl) 6 [[], [(16, 0)], [(17, 1)], [], [(19, 3)], [(20, 4)], [(18, 2), (21, 5)], [(22, 6)]] [(16, 0), (17, 1), (18, 2), (19, 3), (20, 4), (21, 5)] [
          (fun v _ => v = .pointer (some ⟨B, 2, none⟩)),
          (fun v _ => v = .slice hA hn hc),
          (fun v w => w.ownsRow W.heap.size 73 3 v E1.length (E1.flatMap evC)),
          (fun v _ => v = .pointer (some ⟨B, 2, none⟩)),
          (fun v _ => v = .slice hA hn hc),
          (fun v w => w.ownsRow W.heap.size 73 3 v E2.length (E2.flatMap evC))
        ] (by kernel_rfl) (by kernel_rfl) (by kernel_rfl) (by decide) ⟨dstab_eq, dstab_eq, dst_own, dstab_eq, dstab_eq, dst_own, trivial⟩ ?steps ?fin
      case steps =>
        refine ⟨?_, ?_, ?_, ?_, ?_, ?_, trivial⟩
        · intro vs g w2 hI hF hR K hK
          simp only [Facts, fill, Act.put, z1, z2, z3, z4, z5, Nat.reduceAdd] at hF hR hK ⊢
          go_simp
          exact hK _ () _ hI (Below.refl _ _) rfl
        · intro vs g w2 hI hF hR K hK
          simp only [Facts, fill, Act.put, z1, z2, z3, z4, z5, Nat.reduceAdd] at hF hR hK ⊢
          obtain ⟨r0, -⟩ := hR
          generalize vs 0 = x0 at *
          subst r0
          have k0 := (hI.cell (lt_of_cell g2)).trans g2
          go_simp
          exact hK _ () _ hI (Below.refl _ _) rfl
        · intro vs g w2 hI hF hR K hK
          simp only [Facts, fill, Act.put, z1, z2, z3, z4, z5, Nat.reduceAdd] at hF hR hK ⊢
          obtain ⟨r1, -⟩ := hR
          generalize vs 1 = x1 at *
          subst r1
          go_simp
          refine (ref16ValidEvents_c hA hn hc hrs E1 _ w2 (HH.out.next hI) HHN.out hn64 HV.out HE1.out).mono ?_
          rintro e w3 ⟨v3, rfl, hown3, hb⟩
          exact hK _ () _ (hI.trans (hb.mono hI.size)) hb (hown3.mono hI.size)
        · intro vs g w2 hI hF hR K hK
          simp only [Facts, fill, Act.put, z1, z2, z3, z4, z5, Nat.reduceAdd] at hF hR hK ⊢
          go_simp
          exact hK _ () _ hI (Below.refl _ _) rfl
        · intro vs g w2 hI hF hR K hK
          simp only [Facts, fill, Act.put, z1, z2, z3, z4, z5, Nat.reduceAdd] at hF hR hK ⊢
          obtain ⟨r3, -⟩ := hR
          generalize vs 3 = x3 at *
          subst r3
          have k0 := (hI.cell (lt_of_cell g2)).trans g2
          go_simp
          exact hK _ () _ hI (Below.refl _ _) rfl
        · intro vs g w2 hI hF hR K hK
          simp only [Facts, fill, Act.put, z1, z2, z3, z4, z5, Nat.reduceAdd] at hF hR hK ⊢
          obtain ⟨r4, -⟩ := hR
          generalize vs 4 = x4 at *
          subst r4
          go_simp
          refine (ref16MemberEvents_c hA hn hc hrs E2 _ w2 (HH.out.next hI) HHN.out hn64 HV.out HE2.out).mono ?_
          rintro e w3 ⟨v3, rfl, hown3, hb⟩
          exact hK _ () _ (hI.trans (hb.mono hI.size)) hb (hown3.mono hI.size)
      case fin =>
        intro vs w2 hI hR
        have r2 := hR 2 (by decide)
        have r5 := hR 5 (by decide)
        simp only [fill, Act.put, z1, z2, z3, z4, z5] at r2 r5 ⊢
        clear hR
        generalize vs 2 = x2 at *
        generalize vs 5 = x5 at *
        obtain ⟨A5, c5, h5, hn5, hev5⟩ := own_evN r5
        subst h5
        refine wpOps_step rfl rfl ?_
        refine op_app_row elemEv _ _ rfl W.heap.size _ E1.length (E1.flatMap evC) rfl r2 A5 c5 E2.length E2 _ rfl rfl hev5.row hn5 (by have := HL.out; omega) hI.size ?_
        intro v' w6 hown6 hgrow6 hnew6
        refine wpOps_step rfl rfl ?_
        go_simp
        refine NoPanic.normal ?_
        go_wp2
        go_ret
        exact ⟨_, rfl, (own_evA HE.out hown6).mono h0.size, h0.trans ((hI.grown hgrow6 hI.size (fun g hg => (World.ownsRow.lt r2 g hg).1)).mono h0.size)⟩
    · have d3 : (op == 3) = false := by rw [beq_eq_false_iff_ne]; exact h3
      have d4 : (op == 4) = false := by rw [beq_eq_false_iff_ne]; exact h4
      have HE := Lib.hid (show E = [] by rw [← hE]; exact evE_no h3 h4)
      clear h3 h4 hE h64 hv hvs
      go_enter Tryz.func18, Tryz.ntmps18
      go_upto_region 1 with (fail)
      rw [← HW.out, ← HB.out]
      go_wp2
      go_ret
      exact ⟨_, rfl, by rw [HE.out]; exact World.ownsRow_nil _ _ _ _, h0⟩
end Go.Proofs.YthmkllpdkcmccaaGreatDoor
namespace Go.Proofs.YthmkllpdkcmccaaGreatDoor
open Go.RowKit
set_option maxRecDepth 100000
set_option linter.unusedVariables false
set_option linter.unusedSimpArgs false

def WdRel (w : World) (base : Nat) (v : Value) (ys : List Int) (x : Int) (b y i : Value) (wr : World) : Prop :=
  ∃ (k : Nat) (yv : Int), i = .int .i64 k ∧ k ≤ 8 ∧ y = .int .u64 yv ∧ yv = shr k x ∧ Grew w base v (ys ++ digs k x) b wr
set_option maxHeartbeats 1000000 in
theorem ref18Word_any (base : Nat) (v : Value) (ys : List Int) (x : Int) (w : World) (hown : OwnK w base 5 .u8 v ys) (hl : ys.length ≤ 900000) (hbase : base ≤ w.heap.size) (hx : U x) :
    Calls Tryz.prog 39 #[v, .int .u64 x] w fun e w' => ∃ v', e = .returned v' ∧ Grew w base v (ys ++ digs 8 x) v' w' := by
  go_enter Tryz.func39, Tryz.ntmps39
  go_wp2
  go_loopw [0, 1, 5] (fun b y i wr => WdRel w base v ys x b y i wr) (fun _ _ i _ => 8 - (intOf i).toNat)
  case atStart => exact ⟨0, x, rfl, by omega, rfl, rfl, by rw [show digs 0 x = [] from rfl, List.append_nil]; exact Grew.refl hown⟩
  case round =>
    obtain ⟨k, yv, rfl, hk, rfl, hy, hg⟩ := hrel
    by_cases hgo : k < 8
    · have hyU : U yv := by rw [hy]; exact shr_U k hx
      have hy0 := hyU.1
      have hy1 : yv ≤ 18446744073709551615 := hyU.2
      have HD := Lib.hid (digs_snoc k x)
      have HS := Lib.hid (shr_succ k x)
      rw [← hy] at HD HS
      have hdl := digs_len k x
      generalize digs k x = D at hg HD hdl
      have hrow := hg.row
      have hsz := hg.moved.size
      have e1 : IntKind.u64.wrap (yv.tmod 256) = yv % 256 := by rw [Int.tmod_eq_emod_of_nonneg hy0]; exact wrap_u64' (by omega) (by omega)
      have e2 : IntKind.u8.wrap (yv % 256) = yv % 256 := wrap_u8' (by omega) (by omega)
      have e3 : IntKind.u64.wrap (yv.tdiv 256) = yv / 256 := by rw [Int.tdiv_eq_ediv_of_nonneg hy0]; exact wrap_u64' (by omega) (by omega)
      have HX := Lib.hid hx
      have hlen : (ys ++ D).length ≤ 900010 := by rw [List.length_append]; omega
      clear hy hx hown hdl
      obtain ⟨Y, hY⟩ : ∃ Y, Y = ys ++ D := ⟨_, rfl⟩
      rw [← hY] at hg hrow hlen
      have HY := Lib.hid hY
      clear hY
      go_wp2_with (first
        | (at_builtin; refine wp_grow_lit rfl _ _ rfl base _ Y rfl hrow [yv % 256] 1 1 rfl rfl (by simp; omega) (by omega) ?_
           intro v2 w2 hg2))
      go_roundw
      case rel => exact ⟨k + 1, yv / 256, by go_num, by omega, rfl, HS.out.symm, by rw [HD.out, ← List.append_assoc, ← HY.out]; exact hg.trans hg2⟩
      case measure => simp [intOf]; omega
    · have hk8 : k = 8 := by omega
      subst hk8
      go_wp2
      go_ret
      exact ⟨_, rfl, hg⟩
end Go.Proofs.YthmkllpdkcmccaaGreatDoor
namespace Go.Proofs.YthmkllpdkcmccaaGreatDoor
open Go.RowKit
set_option maxRecDepth 100000
set_option linter.unusedVariables false
set_option linter.unusedSimpArgs false

end Go.Proofs.YthmkllpdkcmccaaGreatDoor
namespace Go.Proofs.YthmkllpdkcmccaaGreatDoor
open Go

def recOk (n : Int) (i : Nat) (x : Rc) : Prop := ((i : Int) < n → x.live = 1) ∧ (¬ (i : Int) < n → x.live = 0 ∧ x.id = 0)
theorem recsA_iff : ∀ {l : List Rc} {n : Int}, recsA n l = true ↔ ∀ (i : Nat) (h : i < l.length), recOk n i l[i]
  | [], n => ⟨fun _ i h => absurd h (by simp), fun _ => rfl⟩
  | x :: l, n => by
    simp only [recsA, Bool.and_eq_true, recsA_iff (l := l)]
    constructor
    · rintro ⟨h0, h⟩ i hi
      cases i with
      | zero =>
        show recOk n 0 x
        by_cases e : 0 < n
        · rw [if_pos e] at h0; exact ⟨fun _ => of_decide_eq_true h0, fun e2 => absurd (by simpa using e) e2⟩
        · rw [if_neg e, Bool.and_eq_true] at h0; exact ⟨fun e2 => absurd (by simpa using e2) e, fun _ => ⟨of_decide_eq_true h0.1, of_decide_eq_true h0.2⟩⟩
      | succ i =>
        have := h i (by simpa using hi)
        show recOk n (i + 1) (l[i]'(by simpa using hi))
        exact ⟨fun e => this.1 (by omega), fun e => this.2 (by omega)⟩
    · intro h
      refine ⟨?_, fun i hi => ?_⟩
      · have := h 0 (by simp)
        by_cases e : 0 < n
        · rw [if_pos e]; exact decide_eq_true (this.1 (by simpa using e))
        · rw [if_neg e, Bool.and_eq_true]; have h2 := this.2 (by simpa using e); exact ⟨decide_eq_true h2.1, decide_eq_true h2.2⟩
      · have := h (i + 1) (by simpa using hi)
        exact ⟨fun e => this.1 (by omega), fun e => this.2 (by omega)⟩
theorem isA_head {h : Hq} {a : An} (e : ¬ (0 ≤ a.v ∧ a.v ≤ mostA h.op ∧ (a.l.length : Int) = h.pts ∧ 0 ≤ a.n ∧ a.n ≤ h.pts ∧ (a.v = 0 → a.n ≤ 0))) : isA h a = false := by
  cases hb : isA h a with
  | false => rfl
  | true => unfold isA at hb; rw [Bool.and_eq_true] at hb; exact absurd (headA_iff.1 hb.1) e
theorem isA_rec {h : Hq} {a : An} {i : Nat} (hi : i < a.l.length) (e : ¬ recOk a.n i a.l[i]) : isA h a = false := by
  cases hb : isA h a with
  | false => rfl
  | true => unfold isA at hb; rw [Bool.and_eq_true] at hb; exact absurd (recsA_iff.1 hb.2 i hi) e
theorem isA_yes {h : Hq} {a : An} (e : 0 ≤ a.v ∧ a.v ≤ mostA h.op ∧ (a.l.length : Int) = h.pts ∧ 0 ≤ a.n ∧ a.n ≤ h.pts ∧ (a.v = 0 → a.n ≤ 0)) (h2 : ∀ (i : Nat) (h : i < a.l.length), recOk a.n i a.l[i]) : isA h a = true := by
  unfold isA; rw [Bool.and_eq_true]; exact ⟨headA_iff.2 e, recsA_iff.2 h2⟩
end Go.Proofs.YthmkllpdkcmccaaGreatDoor
namespace Go.Proofs.YthmkllpdkcmccaaGreatDoor
open Go.RowKit
set_option maxRecDepth 100000
set_option linter.unusedVariables false
set_option linter.unusedSimpArgs false

def IsRel (W : World) (l : List Rc) (n : Int) (i : Value) (wr : World) : Prop := ∃ k : Nat, i = .int .i64 k ∧ k ≤ l.length ∧ (∀ (j : Nat) (h : j < l.length), j < k → recOk n j l[j]) ∧ Below W.heap.size W wr
set_option maxHeartbeats 4000000 in
theorem ref18Is_any (op vx pts : Int) (A : Option Addr) (hn hc : Nat) (ks : List (Bool × Int)) (v k : Int) (B : Option Addr) (m d : Nat) (l : List Rc) (r : Bool) (T : Nat → Prop) (w : World) (hop : 1 ≤ op ∧ op ≤ 5) (hl : RowR w T 2 rcC B l) (hm : m = l.length) (hml : m ≤ 9223372036854775807) (hr : isA ⟨op, vx, ks, pts⟩ ⟨v, k, l⟩ = r) :
    Calls Tryz.prog 38 #[.agg #[.int .i64 op, .int .i64 vx, .slice A hn hc, .int .i64 pts], .agg #[.int .i64 v, .int .i64 k, .slice B m d]] w fun e w' => e = .returned (.bool r) ∧ Below w.heap.size w w' := by
  obtain ⟨o, rfl⟩ : ∃ o : Nat, op = o := ⟨op.toNat, by omega⟩
  obtain ⟨mo, hmo⟩ : ∃ mo, mostA o = mo := ⟨_, rfl⟩
  obtain ⟨W, hW⟩ : ∃ W, W = ((w.alloc (.cells #[.int .i64 o, .int .i64 vx, .slice A hn hc, .int .i64 pts] 37)).alloc (.cells #[.int .i64 v, .int .i64 k, .slice B m d] 59)).alloc (.cells #[.int .i64 0, .int .i64 2, .int .i64 2, .int .i64 3, .int .i64 2, .int .i64 1] 114) := ⟨_, rfl⟩
  obtain ⟨b, hb⟩ : ∃ b, b = w.heap.size := ⟨_, rfl⟩
  have h0 : Below w.heap.size w W := by rw [hW]; exact (((Below.refl _ _).alloc (Nat.le_refl _) _).alloc (by simp) _).alloc (by simp; omega) _
  have g0 : W.cell? ⟨b, 0, none⟩ = some (.int .i64 o) := by rw [hW, hb]; simp [go_sem]
  have g3 : W.cell? ⟨b, 3, none⟩ = some (.int .i64 pts) := by rw [hW, hb]; simp [go_sem]
  have a0 : W.cell? ⟨b + 1, 0, none⟩ = some (.int .i64 v) := by rw [hW, hb]; simp [go_sem]
  have a1 : W.cell? ⟨b + 1, 1, none⟩ = some (.int .i64 k) := by rw [hW, hb]; simp [go_sem]
  have a2 : W.cell? ⟨b + 1, 2, none⟩ = some (.slice B m d) := by rw [hW, hb]; simp [go_sem]
  have m0 : W.cell? ⟨b + 1 + 1, o, none⟩ = some (.int .i64 mo) := by
    rw [hW, hb, ← hmo]
    have h5 : o = 1 ∨ o = 2 ∨ o = 3 ∨ o = 4 ∨ o = 5 := by omega
    rcases h5 with rfl | rfl | rfl | rfl | rfl <;> simp [go_sem, mostA]
  have HRow := Lib.hid (hl.next h0)
  have HW := Lib.hid hW
  have HB := Lib.hid hb
  have HR := Lib.hid hr
  have HM := Lib.hid hm
  have HMO := Lib.hid hmo
  have ho6 : (o : Int) < 6 := by omega
  have hbn : b < W.heap.size ∧ b + 1 < W.heap.size := by have := lt_of_cell m0; omega
  clear hW hb hr hm hl hmo
  by_cases c0 : v < 0
  · have HX := Lib.hid (show r = false by rw [← HR.out]; exact isA_head (by simp only; rw [HMO.out, ← HM.out]; omega))
    have d0 : decide (v < 0) = true := decide_eq_true c0
    clear c0
    go_enter Tryz.func38, Tryz.ntmps38
    go_upto_region 2 with (fail)
    rw [← HW.out, ← HB.out]
    go_quiet (fail)
    go_wp2
    go_ret
    exact ⟨by rw [HX.out]; rfl, below_drewN' h0 _⟩
  by_cases c1 : mo < v
  · have HX := Lib.hid (show r = false by rw [← HR.out]; exact isA_head (by simp only; rw [HMO.out, ← HM.out]; omega))
    have d0 : decide (v < 0) = false := decide_eq_false c0
    have d1 : decide (mo < v) = true := decide_eq_true c1
    clear c0 c1
    go_enter Tryz.func38, Tryz.ntmps38
    go_upto_region 2 with (fail)
    rw [← HW.out, ← HB.out]
    go_quiet (fail)
    go_wp2
    go_ret
    exact ⟨by rw [HX.out]; rfl, below_drewN' h0 _⟩
  by_cases c2 : ¬ (m : Int) = pts
  · have HX := Lib.hid (show r = false by rw [← HR.out]; exact isA_head (by simp only; rw [HMO.out, ← HM.out]; omega))
    have d0 : decide (v < 0) = false := decide_eq_false c0
    have d1 : decide (mo < v) = false := decide_eq_false c1
    have d2 : ((m : Int) != pts) = true := by rw [bne_iff_ne]; exact c2
    clear c0 c1 c2
    go_enter Tryz.func38, Tryz.ntmps38
    go_upto_region 2 with (fail)
    rw [← HW.out, ← HB.out]
    go_quiet (fail)
    go_wp2
    go_ret
    exact ⟨by rw [HX.out]; rfl, below_drewN' h0 _⟩
  by_cases c3 : k < 0
  · have HX := Lib.hid (show r = false by rw [← HR.out]; exact isA_head (by simp only; rw [HMO.out, ← HM.out]; omega))
    have d0 : decide (v < 0) = false := decide_eq_false c0
    have d1 : decide (mo < v) = false := decide_eq_false c1
    have d2 : ((m : Int) != pts) = false := by rw [bne_eq_false_iff_eq]; exact Classical.not_not.1 c2
    have d3 : decide (k < 0) = true := decide_eq_true c3
    clear c0 c1 c2 c3
    go_enter Tryz.func38, Tryz.ntmps38
    go_upto_region 2 with (fail)
    rw [← HW.out, ← HB.out]
    go_quiet (fail)
    go_wp2
    go_ret
    exact ⟨by rw [HX.out]; rfl, below_drewN' h0 _⟩
  by_cases c4 : pts < k
  · have HX := Lib.hid (show r = false by rw [← HR.out]; exact isA_head (by simp only; rw [HMO.out, ← HM.out]; omega))
    have d0 : decide (v < 0) = false := decide_eq_false c0
    have d1 : decide (mo < v) = false := decide_eq_false c1
    have d2 : ((m : Int) != pts) = false := by rw [bne_eq_false_iff_eq]; exact Classical.not_not.1 c2
    have d3 : decide (k < 0) = false := decide_eq_false c3
    have d4 : decide (pts < k) = true := decide_eq_true c4
    clear c0 c1 c2 c3 c4
    go_enter Tryz.func38, Tryz.ntmps38
    go_upto_region 2 with (fail)
    rw [← HW.out, ← HB.out]
    go_quiet (fail)
    go_wp2
    go_ret
    exact ⟨by rw [HX.out]; rfl, below_drewN' h0 _⟩
  by_cases c5 : v = 0 ∧ 0 < k
  · have HX := Lib.hid (show r = false by rw [← HR.out]; exact isA_head (by simp only; rw [HMO.out, ← HM.out]; omega))
    have d0 : decide (v < 0) = false := decide_eq_false c0
    have d1 : decide (mo < v) = false := decide_eq_false c1
    have d2 : ((m : Int) != pts) = false := by rw [bne_eq_false_iff_eq]; exact Classical.not_not.1 c2
    have d3 : decide (k < 0) = false := decide_eq_false c3
    have d4 : decide (pts < k) = false := decide_eq_false c4
    have d5 : (v == 0) = true := by rw [beq_iff_eq]; exact c5.1
    have d6 : decide (0 < k) = true := decide_eq_true c5.2
    clear c0 c1 c2 c3 c4 c5
    go_enter Tryz.func38, Tryz.ntmps38
    go_upto_region 2 with (fail)
    rw [← HW.out, ← HB.out]
    go_quiet (fail)
    go_wp2
    go_ret
    exact ⟨by rw [HX.out]; rfl, below_drewN' h0 _⟩
  have HH := Lib.hid (show 0 ≤ v ∧ v ≤ mostA o ∧ (l.length : Int) = pts ∧ 0 ≤ k ∧ k ≤ pts ∧ (v = 0 → k ≤ 0) by rw [HMO.out, ← HM.out]; omega)
  have d0 : decide (v < 0) = false := decide_eq_false c0
  have d1 : decide (mo < v) = false := decide_eq_false c1
  have d2 : ((m : Int) != pts) = false := by rw [bne_eq_false_iff_eq]; exact Classical.not_not.1 c2
  have d3 : decide (k < 0) = false := decide_eq_false c3
  have d4 : decide (pts < k) = false := decide_eq_false c4
  by_cases c6 : v = 0
  · have d5 : (v == 0) = true := by rw [beq_iff_eq]; exact c6
    have d6 : decide (0 < k) = false := decide_eq_false (fun h => c5 ⟨c6, h⟩)
    clear c0 c1 c2 c3 c4 c5 c6
    go_enter Tryz.func38, Tryz.ntmps38
    go_upto_region 2 with (fail)
    rw [← HW.out, ← HB.out]
    go_quiet (fail)
    go_wp2
    go_loopw [6] (fun i wr => IsRel W l k i wr) (fun i _ => m - (intOf i).toNat)
    case atStart => exact ⟨0, rfl, Nat.zero_le _, fun j _ h => absurd h (Nat.not_lt_zero j), below_drewN' (Below.refl _ _) _⟩
    case round =>
      obtain ⟨j, rfl, hj, hok, hb⟩ := hrel
      have z1 := (hb.cell (lt_of_cell a1)).trans a1
      have z2 := (hb.cell (lt_of_cell a2)).trans a2
      have HB2 := Lib.hid hb
      clear g0 g3 a0 a1 a2 m0 d0 d1 d2 d3 d4 d5 d6 hb
      by_cases hgo : j < l.length
      · obtain ⟨bq, oq, rfl, _, hc⟩ := HRow.out.at_ hgo
        have q0 : W.cell? ⟨bq, oq + j * 2, none⟩ = some (.int .u64 (l[j]).live) := hc 0 _ rfl
        have q1 : W.cell? ⟨bq, oq + j * 2 + 1, none⟩ = some (.int .u64 (l[j]).id) := hc 1 _ rfl
        have HNO := Lib.hid (fun e => isA_rec (h := ⟨o, vx, ks, pts⟩) (a := ⟨v, k, l⟩) hgo e)
        have HOK := Lib.hid (fun (e : recOk k j l[j]) => show ∀ (i : Nat) (h : i < l.length), i < j + 1 → recOk k i l[i] from fun i h hi => by
          by_cases ei : i = j
          · subst ei; exact e
          · exact hok i h (by omega))
        have x0 := (HB2.out.cell (lt_of_cell q0)).trans q0
        have x1 := (HB2.out.cell (lt_of_cell q1)).trans q1
        have hjr : (j : Int) < m := by have := HM.out; omega
        clear hc q0 q1 hok
        simp only at HNO
        generalize l[j] = X at x0 x1 HNO HOK
        obtain ⟨a, c⟩ := X
        simp only at x0 x1 HNO HOK
        have hbs := HB2.out.size
        obtain ⟨Wn, hWn⟩ : ∃ Wn, Wn = wr.alloc (.cells #[.int .u64 a, .int .u64 c] 89) := ⟨_, rfl⟩
        obtain ⟨bn, hbn2⟩ : ∃ bn, bn = wr.heap.size := ⟨_, rfl⟩
        have hn0 : Below wr.heap.size wr Wn := by rw [hWn]; exact (Below.refl _ _).alloc (Nat.le_refl _) _
        have n0 : Wn.cell? ⟨bn, 0, none⟩ = some (.int .u64 a) := by rw [hWn, hbn2]; simp [go_sem]
        have n1 : Wn.cell? ⟨bn, 1, none⟩ = some (.int .u64 c) := by rw [hWn, hbn2]; simp [go_sem]
        have y1 := (hn0.cell (lt_of_cell z1)).trans z1
        have y2 := (hn0.cell (lt_of_cell z2)).trans z2
        have HWN := Lib.hid hWn
        have HBN := Lib.hid hbn2
        have hbW2 := HB2.out.trans (hn0.mono hbs)
        clear hWn hbn2
        by_cases e1 : (j : Int) < k
        · have f1 : decide ((j : Int) < k) = true := decide_eq_true e1
          by_cases e2 : a = 1
          · have f2 : (a != 1) = false := by rw [bne_eq_false_iff_eq]; exact e2
            have f3 : decide (k ≤ (j : Int)) = false := decide_eq_false (by omega)
            have HO := Lib.hid (HOK.out ⟨fun _ => e2, fun h => absurd e1 h⟩)
            clear e1 e2
            go_upto_region 8 with (fail)
            rw [← HWN.out, ← HBN.out]
            go_wp2
            go_roundw
            case rel => exact ⟨j + 1, by go_num, hgo, HO.out, hbW2⟩
            case measure => have := HM.out; simp [intOf]; omega
          · have f2 : (a != 1) = true := by rw [bne_iff_ne]; exact e2
            have HX := Lib.hid (show r = false by rw [← HR.out]; exact HNO.out (fun h => e2 (h.1 e1)))
            clear e1 e2
            go_upto_region 8 with (fail)
            rw [← HWN.out, ← HBN.out]
            go_wp2
            go_ret
            exact ⟨by rw [HX.out]; rfl, h0.trans (hbW2.mono h0.size)⟩
        · have f1 : decide ((j : Int) < k) = false := decide_eq_false e1
          have f3 : decide (k ≤ (j : Int)) = true := decide_eq_true (by omega)
          by_cases e2 : a = 0
          · have f2 : (a != 0) = false := by rw [bne_eq_false_iff_eq]; exact e2
            by_cases e3 : c = 0
            · have f4 : (c != 0) = false := by rw [bne_eq_false_iff_eq]; exact e3
              have HO := Lib.hid (HOK.out ⟨fun h => absurd h e1, fun _ => ⟨e2, e3⟩⟩)
              clear e1 e2 e3
              go_upto_region 8 with (fail)
              rw [← HWN.out, ← HBN.out]
              go_wp2
              go_roundw
              case rel => exact ⟨j + 1, by go_num, hgo, HO.out, hbW2⟩
              case measure => have := HM.out; simp [intOf]; omega
            · have f4 : (c != 0) = true := by rw [bne_iff_ne]; exact e3
              have HX := Lib.hid (show r = false by rw [← HR.out]; exact HNO.out (fun h => e3 (h.2 e1).2))
              clear e1 e2 e3
              go_upto_region 8 with (fail)
              rw [← HWN.out, ← HBN.out]
              go_wp2
              go_ret
              exact ⟨by rw [HX.out]; rfl, h0.trans (hbW2.mono h0.size)⟩
          · have f2 : (a != 0) = true := by rw [bne_iff_ne]; exact e2
            have HX := Lib.hid (show r = false by rw [← HR.out]; exact HNO.out (fun h => e2 (h.2 e1).1))
            clear e1 e2
            go_upto_region 8 with (fail)
            rw [← HWN.out, ← HBN.out]
            go_wp2
            go_ret
            exact ⟨by rw [HX.out]; rfl, h0.trans (hbW2.mono h0.size)⟩
      · have hjr : ¬ ((j : Int) < m) := by have := HM.out; omega
        have HX := Lib.hid (show r = true by rw [← HR.out]; exact isA_yes HH.out (fun i h => hok i h (by have h' : i < l.length := h; omega)))
        go_wp2
        go_ret
        exact ⟨by rw [HX.out]; rfl, h0.trans (HB2.out.mono h0.size)⟩
  · have d5 : (v == 0) = false := by rw [beq_eq_false_iff_ne]; exact c6
    clear c0 c1 c2 c3 c4 c5 c6
    go_enter Tryz.func38, Tryz.ntmps38
    go_upto_region 2 with (fail)
    rw [← HW.out, ← HB.out]
    go_quiet (fail)
    go_wp2
    go_loopw [6] (fun i wr => IsRel W l k i wr) (fun i _ => m - (intOf i).toNat)
    case atStart => exact ⟨0, rfl, Nat.zero_le _, fun j _ h => absurd h (Nat.not_lt_zero j), below_drewN' (Below.refl _ _) _⟩
    case round =>
      obtain ⟨j, rfl, hj, hok, hb⟩ := hrel
      have z1 := (hb.cell (lt_of_cell a1)).trans a1
      have z2 := (hb.cell (lt_of_cell a2)).trans a2
      have HB2 := Lib.hid hb
      clear g0 g3 a0 a1 a2 m0 d0 d1 d2 d3 d4 d5 hb
      by_cases hgo : j < l.length
      · obtain ⟨bq, oq, rfl, _, hc⟩ := HRow.out.at_ hgo
        have q0 : W.cell? ⟨bq, oq + j * 2, none⟩ = some (.int .u64 (l[j]).live) := hc 0 _ rfl
        have q1 : W.cell? ⟨bq, oq + j * 2 + 1, none⟩ = some (.int .u64 (l[j]).id) := hc 1 _ rfl
        have HNO := Lib.hid (fun e => isA_rec (h := ⟨o, vx, ks, pts⟩) (a := ⟨v, k, l⟩) hgo e)
        have HOK := Lib.hid (fun (e : recOk k j l[j]) => show ∀ (i : Nat) (h : i < l.length), i < j + 1 → recOk k i l[i] from fun i h hi => by
          by_cases ei : i = j
          · subst ei; exact e
          · exact hok i h (by omega))
        have x0 := (HB2.out.cell (lt_of_cell q0)).trans q0
        have x1 := (HB2.out.cell (lt_of_cell q1)).trans q1
        have hjr : (j : Int) < m := by have := HM.out; omega
        clear hc q0 q1 hok
        simp only at HNO
        generalize l[j] = X at x0 x1 HNO HOK
        obtain ⟨a, c⟩ := X
        simp only at x0 x1 HNO HOK
        have hbs := HB2.out.size
        obtain ⟨Wn, hWn⟩ : ∃ Wn, Wn = wr.alloc (.cells #[.int .u64 a, .int .u64 c] 89) := ⟨_, rfl⟩
        obtain ⟨bn, hbn2⟩ : ∃ bn, bn = wr.heap.size := ⟨_, rfl⟩
        have hn0 : Below wr.heap.size wr Wn := by rw [hWn]; exact (Below.refl _ _).alloc (Nat.le_refl _) _
        have n0 : Wn.cell? ⟨bn, 0, none⟩ = some (.int .u64 a) := by rw [hWn, hbn2]; simp [go_sem]
        have n1 : Wn.cell? ⟨bn, 1, none⟩ = some (.int .u64 c) := by rw [hWn, hbn2]; simp [go_sem]
        have y1 := (hn0.cell (lt_of_cell z1)).trans z1
        have y2 := (hn0.cell (lt_of_cell z2)).trans z2
        have HWN := Lib.hid hWn
        have HBN := Lib.hid hbn2
        have hbW2 := HB2.out.trans (hn0.mono hbs)
        clear hWn hbn2
        by_cases e1 : (j : Int) < k
        · have f1 : decide ((j : Int) < k) = true := decide_eq_true e1
          by_cases e2 : a = 1
          · have f2 : (a != 1) = false := by rw [bne_eq_false_iff_eq]; exact e2
            have f3 : decide (k ≤ (j : Int)) = false := decide_eq_false (by omega)
            have HO := Lib.hid (HOK.out ⟨fun _ => e2, fun h => absurd e1 h⟩)
            clear e1 e2
            go_upto_region 8 with (fail)
            rw [← HWN.out, ← HBN.out]
            go_wp2
            go_roundw
            case rel => exact ⟨j + 1, by go_num, hgo, HO.out, hbW2⟩
            case measure => have := HM.out; simp [intOf]; omega
          · have f2 : (a != 1) = true := by rw [bne_iff_ne]; exact e2
            have HX := Lib.hid (show r = false by rw [← HR.out]; exact HNO.out (fun h => e2 (h.1 e1)))
            clear e1 e2
            go_upto_region 8 with (fail)
            rw [← HWN.out, ← HBN.out]
            go_wp2
            go_ret
            exact ⟨by rw [HX.out]; rfl, h0.trans (hbW2.mono h0.size)⟩
        · have f1 : decide ((j : Int) < k) = false := decide_eq_false e1
          have f3 : decide (k ≤ (j : Int)) = true := decide_eq_true (by omega)
          by_cases e2 : a = 0
          · have f2 : (a != 0) = false := by rw [bne_eq_false_iff_eq]; exact e2
            by_cases e3 : c = 0
            · have f4 : (c != 0) = false := by rw [bne_eq_false_iff_eq]; exact e3
              have HO := Lib.hid (HOK.out ⟨fun h => absurd h e1, fun _ => ⟨e2, e3⟩⟩)
              clear e1 e2 e3
              go_upto_region 8 with (fail)
              rw [← HWN.out, ← HBN.out]
              go_wp2
              go_roundw
              case rel => exact ⟨j + 1, by go_num, hgo, HO.out, hbW2⟩
              case measure => have := HM.out; simp [intOf]; omega
            · have f4 : (c != 0) = true := by rw [bne_iff_ne]; exact e3
              have HX := Lib.hid (show r = false by rw [← HR.out]; exact HNO.out (fun h => e3 (h.2 e1).2))
              clear e1 e2 e3
              go_upto_region 8 with (fail)
              rw [← HWN.out, ← HBN.out]
              go_wp2
              go_ret
              exact ⟨by rw [HX.out]; rfl, h0.trans (hbW2.mono h0.size)⟩
          · have f2 : (a != 0) = true := by rw [bne_iff_ne]; exact e2
            have HX := Lib.hid (show r = false by rw [← HR.out]; exact HNO.out (fun h => e2 (h.2 e1).1))
            clear e1 e2
            go_upto_region 8 with (fail)
            rw [← HWN.out, ← HBN.out]
            go_wp2
            go_ret
            exact ⟨by rw [HX.out]; rfl, h0.trans (hbW2.mono h0.size)⟩
      · have hjr : ¬ ((j : Int) < m) := by have := HM.out; omega
        have HX := Lib.hid (show r = true by rw [← HR.out]; exact isA_yes HH.out (fun i h => hok i h (by have h' : i < l.length := h; omega)))
        go_wp2
        go_ret
        exact ⟨by rw [HX.out]; rfl, h0.trans (HB2.out.mono h0.size)⟩
end Go.Proofs.YthmkllpdkcmccaaGreatDoor
namespace Go.Proofs.YthmkllpdkcmccaaGreatDoor
open Go.RowKit
set_option maxRecDepth 100000
set_option linter.unusedVariables false
set_option linter.unusedSimpArgs false

/-- Records whose numbers are words. -/
def UsR (l : List Rc) : Prop := ∀ r ∈ l, U r.live ∧ U r.id
end Go.Proofs.YthmkllpdkcmccaaGreatDoor
