/-
  The reference of layer 14. (Written by ref14.py.)
-/
import Derived.Test.YtkiecjacbfmblaaDoorPtB
import Derived.Test.YtkiecjacbfmblaaDoorPolyD
import Derived.Test.YtkiecjacbfmblaaDoorEvA
import Derived.Test.YtkiecjacbfmblaaDoorTapeL
import Derived.BigQuiet
import Derived.Lib.MinMax
import Derived.WalkSpells
import Derived.Deep.QuietTactic
import Derived.Deep.RegionLaw
import Derived.Deep.DeepCutAuto
import Derived.Deep.CutRange
import Derived.Deep.CutBlock
namespace Go.Proofs.YtkiecjacbfmblaaDoor
open Go.RowKit Go.Maps
set_option maxRecDepth 100000
set_option linter.unusedVariables false
set_option linter.unusedSimpArgs false

theorem isP_lo {l : List Pt} (h : ¬ 3 ≤ l.length) : isP l = false := by unfold isP; rw [decide_eq_false h]; rfl
theorem isP_hi {l : List Pt} (h : ¬ l.length ≤ 64) : isP l = false := by unfold isP; rw [decide_eq_false h]; simp
theorem ref14Is_any (A : Option Addr) (c n : Nat) (l : List Pt) (r : Bool) (w : World) (hn : n = l.length) (hr : isP l = r) :
    Calls Tryd.prog 22 #[.slice A n c] w fun e w' => e = .returned (.bool r) ∧ w' = w := by
  subst hn
  by_cases h1 : 3 ≤ l.length
  · by_cases h2 : l.length ≤ 64
    · have HR := Lib.hid (show r = true by rw [← hr]; exact (isP_iff l).2 ⟨h1, h2⟩)
      clear hr
      go_enter Tryd.func22, Tryd.ntmps22
      go_wp2
      go_ret
      exact ⟨by rw [HR.out]; simp [go_sem, *] <;> omega, rfl⟩
    · have HR := Lib.hid (show r = false by rw [← hr]; exact isP_hi h2)
      clear hr
      go_enter Tryd.func22, Tryd.ntmps22
      go_wp2
      go_ret
      exact ⟨by rw [HR.out]; simp [go_sem, *] <;> omega, rfl⟩
  · have HR := Lib.hid (show r = false by rw [← hr]; exact isP_lo h1)
    clear hr
    go_enter Tryd.func22, Tryd.ntmps22
    go_wp2
    go_ret
    exact ⟨by rw [HR.out]; simp [go_sem, *] <;> omega, rfl⟩
set_option maxHeartbeats 1000000 in
theorem ref14Side_any (A : Option Addr) (c N : Nat) (l : List Pt) (i : Nat) (X : Pt) (r : Int) (T : Nat → Prop) (w : World) (ha : RowR w T 2 ptC A l) (hN : N = l.length) (hl : N ≤ 1000000) (hi : i < N) (hS : SsP l) (hX : S X.x ∧ S X.y) (hr : side l i X = r) :
    Calls Tryd.prog 33 #[.slice A N c, .int .i64 i, .agg #[.int .i64 X.x, .int .i64 X.y]] w fun e w' => e = .returned (.int .i64 r) ∧ Below w.heap.size w w' := by
  obtain ⟨j, hj⟩ : ∃ j, j = nx N i := ⟨_, rfl⟩
  have hjN : j < N := by rw [hj]; exact nx_lt (by omega)
  have hi1 : i < l.length := by rw [← hN]; exact hi
  have hj1 : j < l.length := by rw [← hN]; exact hjN
  obtain ⟨b, o, rfl, hz1, hz2, hz3⟩ := ha.pt_ hi1
  obtain ⟨W, hW⟩ : ∃ W, W = w.alloc (.cells #[.int .i64 X.x, .int .i64 X.y] 31) := ⟨_, rfl⟩
  obtain ⟨bx, hbx⟩ : ∃ bx, bx = w.heap.size := ⟨_, rfl⟩
  have h0 : Below w.heap.size w W := by rw [hW]; exact (Below.refl _ _).alloc (Nat.le_refl _) _
  have kx0 : W.cell? ⟨bx, 0, none⟩ = some (.int .i64 X.x) := by rw [hW, hbx]; simp [go_sem]
  have kx1 : W.cell? ⟨bx, 1, none⟩ = some (.int .i64 X.y) := by rw [hW, hbx]; simp [go_sem]
  obtain ⟨p0, p1⟩ := (ha.next h0).pt2 hi1
  obtain ⟨q0, q1⟩ := (ha.next h0).pt2 hj1
  obtain ⟨P, hP⟩ : ∃ P, P = Go.Proofs.YtkiecjacbfmblaaDoor.at_ l i := ⟨_, rfl⟩
  obtain ⟨Q, hQ⟩ : ∃ Q, Q = Go.Proofs.YtkiecjacbfmblaaDoor.at_ l j := ⟨_, rfl⟩
  rw [← hP] at p0 p1
  rw [← hQ] at q0 q1
  have HP := Lib.hid (show S P.x ∧ S P.y by rw [hP]; exact hS.ss hi1)
  have HQ := Lib.hid (show S Q.x ∧ S Q.y by rw [hQ]; exact hS.ss hj1)
  have HX := Lib.hid hX
  have HR := Lib.hid (show sgnP P Q X = r by rw [hP, hQ, hj, hN]; exact hr)
  have hrem : ((i : Int) + 1).tmod (N : Int) = (j : Int) := by rw [hj]; exact tmod_nx hi
  have hsum : IntKind.i64.wrap ((i : Int) + 1) = (i : Int) + 1 := wrap_i64' (by omega) (by omega)
  have hN0 : ¬ N = 0 := by omega
  have HW := Lib.hid hW
  have HB := Lib.hid hbx
  clear hW hbx hX hr hj hP hQ hN ha hS hz1 hz2 hz3 hi1 hj1
  go_enter Tryd.func33, Tryd.ntmps33
  go_upto_region 1 with (fail)
  rw [← HW.out, ← HB.out]
  refine dir_plain (by kernel_rfl) 15 [[], [], [(7, 0), (8, 1)], [(9, 2)], [], [], [(12, 5)], [], [(14, 7)], [(13, 6), (15, 8)], [(11, 4), (16, 9)], [(17, 10)], [], [(10, 3), (18, 11), (19, 12)], [(20, 13)]] [(7, 0), (8, 1), (9, 2), (10, 3), (11, 4), (12, 5), (13, 6), (14, 7), (15, 8), (16, 9), (17, 10), (18, 11), (19, 12), (20, 13), (6, 14)] [
      (fun v _ => v = .slice (some ⟨b, o, none⟩) N c),
      (fun v _ => v = .int .i64 i),
      (fun v _ => v = .pointer (some ⟨b, (o + i * 2), none⟩)),
      (fun v _ => v = .agg #[.int .i64 P.x, .int .i64 P.y]),
      (fun v _ => v = .slice (some ⟨b, o, none⟩) N c),
      (fun v _ => v = .int .i64 i),
      (fun v _ => v = .int .i64 (i + 1)),
      (fun v _ => v = .slice (some ⟨b, o, none⟩) N c),
      (fun v _ => v = .int .i64 N),
      (fun v _ => v = .int .i64 j),
      (fun v _ => v = .pointer (some ⟨b, (o + j * 2), none⟩)),
      (fun v _ => v = .agg #[.int .i64 Q.x, .int .i64 Q.y]),
      (fun v _ => v = .agg #[.int .i64 X.x, .int .i64 X.y]),
      (fun v _ => v = .int .i64 r),
      (fun v _ => v = .int .i64 r)
    ] (by kernel_rfl) (by kernel_rfl) (by kernel_rfl) (by decide) ⟨dstab_eq, dstab_eq, dstab_eq, dstab_eq, dstab_eq, dstab_eq, dstab_eq, dstab_eq, dstab_eq, dstab_eq, dstab_eq, dstab_eq, dstab_eq, dstab_eq, dstab_eq, trivial⟩ ?steps ?fin
  case steps =>
    refine ⟨?_, ?_, ?_, ?_, ?_, ?_, ?_, ?_, ?_, ?_, ?_, ?_, ?_, ?_, ?_, trivial⟩
    · intro vs g w2 hI hF hR K hK
      simp only [Facts, fill, Act.put, z1, z2, z3, z4, z5, Nat.reduceAdd] at hF hR hK ⊢
      go_simp
      exact hK _ () _ hI (Below.refl _ _) rfl
    · intro vs g w2 hI hF hR K hK
      simp only [Facts, fill, Act.put, z1, z2, z3, z4, z5, Nat.reduceAdd] at hF hR hK ⊢
      go_simp
      exact hK _ () _ hI (Below.refl _ _) rfl
    · intro vs g w2 hI hF hR K hK
      simp only [Facts, fill, Act.put, z1, z2, z3, z4, z5, Nat.reduceAdd] at hF hR hK ⊢
      obtain ⟨r0, r1, -⟩ := hR
      generalize vs 0 = x0, vs 1 = x1 at *
      subst r0 r1
      go_simp
      exact hK _ () _ hI (Below.refl _ _) rfl
    · intro vs g w2 hI hF hR K hK
      simp only [Facts, fill, Act.put, z1, z2, z3, z4, z5, Nat.reduceAdd] at hF hR hK ⊢
      obtain ⟨r2, -⟩ := hR
      generalize vs 2 = x2 at *
      subst r2
      have k0 := (hI.cell (lt_of_cell p0)).trans p0
      have k1 := (hI.cell (lt_of_cell p1)).trans p1
      go_simp
      exact hK _ () _ hI (Below.refl _ _) rfl
    · intro vs g w2 hI hF hR K hK
      simp only [Facts, fill, Act.put, z1, z2, z3, z4, z5, Nat.reduceAdd] at hF hR hK ⊢
      go_simp
      exact hK _ () _ hI (Below.refl _ _) rfl
    · intro vs g w2 hI hF hR K hK
      simp only [Facts, fill, Act.put, z1, z2, z3, z4, z5, Nat.reduceAdd] at hF hR hK ⊢
      go_simp
      exact hK _ () _ hI (Below.refl _ _) rfl
    · intro vs g w2 hI hF hR K hK
      simp only [Facts, fill, Act.put, z1, z2, z3, z4, z5, Nat.reduceAdd] at hF hR hK ⊢
      obtain ⟨r5, -⟩ := hR
      generalize vs 5 = x5 at *
      subst r5
      go_simp
      exact hK _ () _ hI (Below.refl _ _) rfl
    · intro vs g w2 hI hF hR K hK
      simp only [Facts, fill, Act.put, z1, z2, z3, z4, z5, Nat.reduceAdd] at hF hR hK ⊢
      go_simp
      exact hK _ () _ hI (Below.refl _ _) rfl
    · intro vs g w2 hI hF hR K hK
      simp only [Facts, fill, Act.put, z1, z2, z3, z4, z5, Nat.reduceAdd] at hF hR hK ⊢
      obtain ⟨r7, -⟩ := hR
      generalize vs 7 = x7 at *
      subst r7
      go_simp
      exact hK _ () _ hI (Below.refl _ _) rfl
    · intro vs g w2 hI hF hR K hK
      simp only [Facts, fill, Act.put, z1, z2, z3, z4, z5, Nat.reduceAdd] at hF hR hK ⊢
      obtain ⟨r6, r8, -⟩ := hR
      generalize vs 6 = x6, vs 8 = x8 at *
      subst r6 r8
      have HM2 := hrem
      have HM3 := hN0
      go_simp
      exact hK _ () _ hI (Below.refl _ _) rfl
    · intro vs g w2 hI hF hR K hK
      simp only [Facts, fill, Act.put, z1, z2, z3, z4, z5, Nat.reduceAdd] at hF hR hK ⊢
      obtain ⟨r4, r9, -⟩ := hR
      generalize vs 4 = x4, vs 9 = x9 at *
      subst r4 r9
      go_simp
      exact hK _ () _ hI (Below.refl _ _) rfl
    · intro vs g w2 hI hF hR K hK
      simp only [Facts, fill, Act.put, z1, z2, z3, z4, z5, Nat.reduceAdd] at hF hR hK ⊢
      obtain ⟨r10, -⟩ := hR
      generalize vs 10 = x10 at *
      subst r10
      have k0 := (hI.cell (lt_of_cell q0)).trans q0
      have k1 := (hI.cell (lt_of_cell q1)).trans q1
      go_simp
      exact hK _ () _ hI (Below.refl _ _) rfl
    · intro vs g w2 hI hF hR K hK
      simp only [Facts, fill, Act.put, z1, z2, z3, z4, z5, Nat.reduceAdd] at hF hR hK ⊢
      have k0 := (hI.cell (lt_of_cell kx0)).trans kx0
      have k1 := (hI.cell (lt_of_cell kx1)).trans kx1
      go_simp
      exact hK _ () _ hI (Below.refl _ _) rfl
    · intro vs g w2 hI hF hR K hK
      simp only [Facts, fill, Act.put, z1, z2, z3, z4, z5, Nat.reduceAdd] at hF hR hK ⊢
      obtain ⟨r3, r11, r12, -⟩ := hR
      generalize vs 3 = x3, vs 11 = x11, vs 12 = x12 at *
      subst r3 r11 r12
      go_simp
      refine (ref6Sign_d P Q X w2 HP.out HQ.out HX.out r HR.out).mono ?_
      rintro e w3 ⟨rfl, hb⟩
      exact hK _ () _ (hI.trans (hb.mono hI.size)) hb rfl
    · intro vs g w2 hI hF hR K hK
      simp only [Facts, fill, Act.put, z1, z2, z3, z4, z5, Nat.reduceAdd] at hF hR hK ⊢
      obtain ⟨r13, -⟩ := hR
      generalize vs 13 = x13 at *
      subst r13
      go_simp
      exact hK _ () _ hI (Below.refl _ _) rfl
  case fin =>
    intro vs w2 hI hR
    have r14 := hR 14 (by decide)
    simp only [fill, Act.put, z1, z2, z3, z4, z5] at r14 ⊢
    clear hR
    generalize vs 14 = x14 at *
    subst r14
    refine NoPanic.normal ?_
    go_wp2
    go_ret
    exact ⟨rfl, h0.trans (hI.mono h0.size)⟩
theorem orP_no {l : List Pt} (h : isP l = false) : orP l = 0 := by unfold orP; rw [h]; rfl
theorem ref14Or_any (A : Option Addr) (c N : Nat) (l : List Pt) (r : Int) (T : Nat → Prop) (w : World) (ha : RowR w T 2 ptC A l) (hN : N = l.length) (hl : N ≤ 1000000) (hS : SsP l) (hr : orP l = r) :
    Calls Tryd.prog 14 #[.slice A N c] w fun e w' => e = .returned (.int .i64 r) ∧ Below w.heap.size w w' := by
  have HN := Lib.hid hN
  cases hp : isP l with
  | false =>
    have HR := Lib.hid (show r = 0 by rw [← hr]; exact orP_no hp)
    have HP := Lib.hid hp
    clear hr hp hN
    go_enter Tryd.func14, Tryd.ntmps14
    go_wp2_with (fail)
    refine (ref14Is_any A c N l false w HN.out HP.out).mono ?_
    rintro e w1 ⟨rfl, hw1⟩
    obtain rfl := hw1.symm
    go_wp2
    go_ret
    exact ⟨by rw [HR.out]; rfl, Below.refl _ _⟩
  | true =>
    have hn := (isP_iff l).1 hp
    obtain ⟨b, o, rfl, hz1, hz2, hz3⟩ := ha.pt_ (k := 0) (by omega)
    have p01 := ha.pt2 (k := 0) (by omega)
    have q01 := ha.pt2 (k := 1) (by omega)
    have x01 := ha.pt2 (k := 2) (by omega)
    rw [Nat.zero_mul, Nat.add_zero] at p01
    rw [Nat.one_mul, show o + 2 + 1 = o + 3 from rfl] at q01
    rw [show o + 2 * 2 = o + 4 from rfl, show o + 4 + 1 = o + 5 from rfl] at x01
    obtain ⟨p0, p1⟩ := p01
    obtain ⟨q0, q1⟩ := q01
    obtain ⟨x0, x1⟩ := x01
    have HR0 := Lib.hid (show sgnP (Go.Proofs.YtkiecjacbfmblaaDoor.at_ l 0) (Go.Proofs.YtkiecjacbfmblaaDoor.at_ l 1) (Go.Proofs.YtkiecjacbfmblaaDoor.at_ l 2) = r by rw [← hr]; unfold orP; rw [if_pos hp])
    have HP0 := Lib.hid (hS.ss (k := 0) (by omega))
    have HQ0 := Lib.hid (hS.ss (k := 1) (by omega))
    have HX0 := Lib.hid (hS.ss (k := 2) (by omega))
    generalize Go.Proofs.YtkiecjacbfmblaaDoor.at_ l 0 = P at *
    generalize Go.Proofs.YtkiecjacbfmblaaDoor.at_ l 1 = Q at *
    generalize Go.Proofs.YtkiecjacbfmblaaDoor.at_ l 2 = X at *
    have HR := HR0
    have HP := HP0
    have HQ := HQ0
    have HX := HX0
    have HI := Lib.hid hp
    have hN1 : 0 < N := by omega
    have hN2 : (1 : Int) < (N : Int) := by omega
    have hN3 : (2 : Int) < (N : Int) := by omega
    clear hr hp hN HR0 HP0 HQ0 HX0 hz1 hz2 hz3
    go_enter Tryd.func14, Tryd.ntmps14
    go_wp2_with (fail)
    refine (ref14Is_any _ c N l true w HN.out HI.out).mono ?_
    rintro e w1 ⟨rfl, hw1⟩
    obtain rfl := hw1.symm
    clear ha hS hn HI
    go_wp2
    refine dir_plain (by kernel_rfl) 11 [[], [(6, 0)], [(7, 1)], [], [(9, 3)], [(10, 4)], [], [(12, 6)], [(13, 7)], [(8, 2), (11, 5), (14, 8)], [(15, 9)]] [(6, 0), (7, 1), (8, 2), (9, 3), (10, 4), (11, 5), (12, 6), (13, 7), (14, 8), (15, 9), (2, 10)] [
        (fun v _ => v = .slice (some ⟨b, o, none⟩) N c),
        (fun v _ => v = .pointer (some ⟨b, o, none⟩)),
        (fun v _ => v = .agg #[.int .i64 P.x, .int .i64 P.y]),
        (fun v _ => v = .slice (some ⟨b, o, none⟩) N c),
        (fun v _ => v = .pointer (some ⟨b, (o + 2), none⟩)),
        (fun v _ => v = .agg #[.int .i64 Q.x, .int .i64 Q.y]),
        (fun v _ => v = .slice (some ⟨b, o, none⟩) N c),
        (fun v _ => v = .pointer (some ⟨b, (o + 4), none⟩)),
        (fun v _ => v = .agg #[.int .i64 X.x, .int .i64 X.y]),
        (fun v _ => v = .int .i64 r),
        (fun v _ => v = .int .i64 r)
      ] (by kernel_rfl) (by kernel_rfl) (by kernel_rfl) (by decide) ⟨dstab_eq, dstab_eq, dstab_eq, dstab_eq, dstab_eq, dstab_eq, dstab_eq, dstab_eq, dstab_eq, dstab_eq, dstab_eq, trivial⟩ ?steps ?fin
    case steps =>
      refine ⟨?_, ?_, ?_, ?_, ?_, ?_, ?_, ?_, ?_, ?_, ?_, trivial⟩
      · intro vs g w2 hI hF hR K hK
        simp only [Facts, fill, Act.put, z1, z2, z3, z4, z5, Nat.reduceAdd] at hF hR hK ⊢
        go_simp
        exact hK _ () _ hI (Below.refl _ _) rfl
      · intro vs g w2 hI hF hR K hK
        simp only [Facts, fill, Act.put, z1, z2, z3, z4, z5, Nat.reduceAdd] at hF hR hK ⊢
        obtain ⟨r0, -⟩ := hR
        generalize vs 0 = x0 at *
        subst r0
        have HM1 := hN1
        go_simp
        exact hK _ () _ hI (Below.refl _ _) rfl
      · intro vs g w2 hI hF hR K hK
        simp only [Facts, fill, Act.put, z1, z2, z3, z4, z5, Nat.reduceAdd] at hF hR hK ⊢
        obtain ⟨r1, -⟩ := hR
        generalize vs 1 = x1 at *
        subst r1
        have k0 := (hI.cell (lt_of_cell p0)).trans p0
        have k1 := (hI.cell (lt_of_cell p1)).trans p1
        go_simp
        exact hK _ () _ hI (Below.refl _ _) rfl
      · intro vs g w2 hI hF hR K hK
        simp only [Facts, fill, Act.put, z1, z2, z3, z4, z5, Nat.reduceAdd] at hF hR hK ⊢
        go_simp
        exact hK _ () _ hI (Below.refl _ _) rfl
      · intro vs g w2 hI hF hR K hK
        simp only [Facts, fill, Act.put, z1, z2, z3, z4, z5, Nat.reduceAdd] at hF hR hK ⊢
        obtain ⟨r3, -⟩ := hR
        generalize vs 3 = x3 at *
        subst r3
        have HM1 := hN2
        go_simp
        exact hK _ () _ hI (Below.refl _ _) rfl
      · intro vs g w2 hI hF hR K hK
        simp only [Facts, fill, Act.put, z1, z2, z3, z4, z5, Nat.reduceAdd] at hF hR hK ⊢
        obtain ⟨r4, -⟩ := hR
        generalize vs 4 = x4 at *
        subst r4
        have k0 := (hI.cell (lt_of_cell q0)).trans q0
        have k1 := (hI.cell (lt_of_cell q1)).trans q1
        go_simp
        exact hK _ () _ hI (Below.refl _ _) rfl
      · intro vs g w2 hI hF hR K hK
        simp only [Facts, fill, Act.put, z1, z2, z3, z4, z5, Nat.reduceAdd] at hF hR hK ⊢
        go_simp
        exact hK _ () _ hI (Below.refl _ _) rfl
      · intro vs g w2 hI hF hR K hK
        simp only [Facts, fill, Act.put, z1, z2, z3, z4, z5, Nat.reduceAdd] at hF hR hK ⊢
        obtain ⟨r6, -⟩ := hR
        generalize vs 6 = x6 at *
        subst r6
        have HM1 := hN3
        go_simp
        exact hK _ () _ hI (Below.refl _ _) rfl
      · intro vs g w2 hI hF hR K hK
        simp only [Facts, fill, Act.put, z1, z2, z3, z4, z5, Nat.reduceAdd] at hF hR hK ⊢
        obtain ⟨r7, -⟩ := hR
        generalize vs 7 = x7 at *
        subst r7
        have k0 := (hI.cell (lt_of_cell x0)).trans x0
        have k1 := (hI.cell (lt_of_cell x1)).trans x1
        go_simp
        exact hK _ () _ hI (Below.refl _ _) rfl
      · intro vs g w2 hI hF hR K hK
        simp only [Facts, fill, Act.put, z1, z2, z3, z4, z5, Nat.reduceAdd] at hF hR hK ⊢
        obtain ⟨r2, r5, r8, -⟩ := hR
        generalize vs 2 = x2, vs 5 = x5, vs 8 = x8 at *
        subst r2 r5 r8
        go_simp
        refine (ref6Sign_d P Q X w2 HP.out HQ.out HX.out r HR.out).mono ?_
        rintro e w3 ⟨rfl, hb⟩
        exact hK _ () _ (hI.trans (hb.mono hI.size)) hb rfl
      · intro vs g w2 hI hF hR K hK
        simp only [Facts, fill, Act.put, z1, z2, z3, z4, z5, Nat.reduceAdd] at hF hR hK ⊢
        obtain ⟨r9, -⟩ := hR
        generalize vs 9 = x9 at *
        subst r9
        go_simp
        exact hK _ () _ hI (Below.refl _ _) rfl
    case fin =>
      intro vs w2 hI hR
      have r10 := hR 10 (by decide)
      simp only [fill, Act.put, z1, z2, z3, z4, z5] at r10 ⊢
      clear hR
      generalize vs 10 = x10 at *
      subst r10
      refine NoPanic.normal ?_
      go_wp2
      go_ret
      exact ⟨rfl, hI⟩
theorem locP_no {l : List Pt} {p : Pt} (h : isP l = false) : locP l p = -1 := by unfold locP; rw [h]; rfl
theorem locP_yes {l : List Pt} {p : Pt} (h : isP l = true) : locP l p = minL (sides l p l.length) := by unfold locP; rw [if_pos h]
theorem mul_in {s r : Int} (hs : s = -1 ∨ s = 0 ∨ s = 1) (hr : r = -1 ∨ r = 0 ∨ r = 1) : -1 ≤ s * r ∧ s * r ≤ 1 := by
  rcases hs with rfl | rfl | rfl <;> rcases hr with rfl | rfl | rfl <;> decide
theorem side_in (l : List Pt) (i : Nat) (p : Pt) : side l i p = -1 ∨ side l i p = 0 ∨ side l i p = 1 := sgn_in _ _ _
def LocRel (w : World) (l : List Pt) (p : Pt) (bx : Nat) (m i : Value) (wr : World) : Prop := ∃ k : Nat, i = .int .i64 k ∧ k ≤ l.length ∧ m = .int .i64 (minL (sides l p k)) ∧ Below w.heap.size w wr ∧ wr.cell? ⟨bx, 0, none⟩ = some (.int .i64 p.x) ∧ wr.cell? ⟨bx, 1, none⟩ = some (.int .i64 p.y)
set_option maxHeartbeats 1000000 in
theorem ref14Locate_any (A : Option Addr) (c N : Nat) (l : List Pt) (p : Pt) (r : Int) (T : Nat → Prop) (w : World) (ha : RowR w T 2 ptC A l) (hN : N = l.length) (hl : N ≤ 1000000) (hS : SsP l) (hp : S p.x ∧ S p.y) (hr : locP l p = r) :
    Calls Tryd.prog 16 #[.slice A N c, .agg #[.int .i64 p.x, .int .i64 p.y]] w fun e w' => e = .returned (.int .i64 r) ∧ Below w.heap.size w w' := by
  have h0 : Below w.heap.size w (w.alloc (.cells #[.int .i64 p.x, .int .i64 p.y] 31)) := (Below.refl _ _).alloc (Nat.le_refl _) _
  have HN := Lib.hid hN
  cases hp2 : isP l with
  | false =>
    have HR := Lib.hid (show r = -1 by rw [← hr]; exact locP_no hp2)
    have HP := Lib.hid hp2
    clear hr hp2 hN
    go_enter Tryd.func16, Tryd.ntmps16
    go_wp2_with (fail)
    refine (ref14Is_any A c N l false _ HN.out HP.out).mono ?_
    rintro e w1 ⟨rfl, hw1⟩
    obtain rfl := hw1.symm
    go_wp2
    go_ret
    exact ⟨by rw [HR.out]; rfl, h0⟩
  | true =>
    have hn := (isP_iff l).1 hp2
    have HR := Lib.hid (show r = minL (sides l p l.length) by rw [← hr]; exact locP_yes hp2)
    have HP := Lib.hid hp2
    have c0 : (w.alloc (.cells #[.int .i64 p.x, .int .i64 p.y] 31)).cell? ⟨w.heap.size, 0, none⟩ = some (.int .i64 p.x) := by simp [go_sem]
    have c1 : (w.alloc (.cells #[.int .i64 p.x, .int .i64 p.y] 31)).cell? ⟨w.heap.size, 1, none⟩ = some (.int .i64 p.y) := by simp [go_sem]
    clear hr hp2 hN
    go_enter Tryd.func16, Tryd.ntmps16
    go_wp2_with (fail)
    refine (ref14Is_any A c N l true _ HN.out HP.out).mono ?_
    rintro e w1 ⟨rfl, hw1⟩
    obtain rfl := hw1.symm
    obtain ⟨s, hs⟩ : ∃ s, orP l = s := ⟨_, rfl⟩
    go_wp2_with (fail)
    refine (ref14Or_any A c N l s T _ (ha.next h0) HN.out hl hS hs).mono ?_
    rintro e w2 ⟨rfl, hb2⟩
    have h2 := h0.trans (hb2.mono h0.size)
    have d0 := (hb2.cell (p := ⟨w.heap.size, 0, none⟩) (lt_of_cell c0)).trans c0
    have d1 := (hb2.cell (p := ⟨w.heap.size, 1, none⟩) (lt_of_cell c1)).trans c1
    have hs1 := or_in l
    rw [hs] at hs1
    have HS := Lib.hid hs
    clear hs c0 c1 hb2 h0
    go_wp2
    go_loopw [6, 7] (fun m i wr => LocRel w l p w.heap.size m i wr) (fun _ i _ => N - (intOf i).toNat)
    case atStart => exact ⟨0, rfl, Nat.zero_le _, rfl, h2, d0, d1⟩
    case round =>
      clear h2 d0 d1
      obtain ⟨k, rfl, hk, rfl, hb, c0, c1⟩ := hrel
      by_cases hgo : k < N
      · obtain ⟨m0, hm0⟩ : ∃ m0, minL (sides l p k) = m0 := ⟨_, rfl⟩
        obtain ⟨q, hq⟩ : ∃ q, side l k p = q := ⟨_, rfl⟩
        have hq1 := side_in l k p
        rw [hq] at hq1
        obtain ⟨x, hx⟩ : ∃ x, s * q = x := ⟨_, rfl⟩
        have hx1 := mul_in hs1 hq1
        rw [hx] at hx1
        obtain ⟨m1, hm1⟩ : ∃ m1, min m0 x = m1 := ⟨_, rfl⟩
        have HM := Lib.hid (show minL (sides l p (k + 1)) = m1 by rw [sides_succ, minL_snoc, hm0, HS.out, hq, hx, hm1])
        have HQ := Lib.hid hq
        have hwr : IntKind.i64.wrap (s * q) = x := by rw [hx]; exact wrap_i64' (by omega) (by omega)
        rw [hm0]
        have hk2 : k + 1 ≤ l.length := by rw [← HN.out]; omega
        clear hm0 hq hx hn hk hq1 hs1
        go_wp2_with (fail)
        refine (ref14Side_any A c N l k p q T _ (ha.next hb) HN.out hl hgo hS hp HQ.out).mono ?_
        rintro e w3 ⟨rfl, hb3⟩
        have h3 := hb.trans (hb3.mono hb.size)
        have d0 := (hb3.cell (p := ⟨w.heap.size, 0, none⟩) (lt_of_cell c0)).trans c0
        have d1 := (hb3.cell (p := ⟨w.heap.size, 1, none⟩) (lt_of_cell c1)).trans c1
        clear c0 c1 hb hb3
        go_wp2
        go_roundw
        case rel => exact ⟨k + 1, by go_num, hk2, by rw [HM.out], h3, d0, d1⟩
        case measure => simp [intOf]; omega
      · have HE := Lib.hid (show minL (sides l p k) = r by rw [HR.out, show k = l.length by have := HN.out; omega])
        rw [HE.out]
        clear hn hs1 c0 c1
        go_wp2
        go_ret
        exact ⟨rfl, hb⟩
def VaRel (w : World) (l : List Pt) (s : Int) (i : Value) (wr : World) : Prop := ∃ k : Nat, i = .int .i64 k ∧ k ≤ l.length ∧ goodTo l s k ∧ Below w.heap.size w wr
def VbRel (w : World) (l : List Pt) (s : Int) (i : Nat) (j : Value) (wr : World) : Prop := ∃ k : Nat, j = .int .i64 k ∧ k ≤ l.length ∧ rowTo l s i k ∧ Below w.heap.size w wr
set_option maxHeartbeats 2000000 in
theorem ref14Valid_any (A : Option Addr) (c N : Nat) (l : List Pt) (r : Bool) (T : Nat → Prop) (w : World) (ha : RowR w T 2 ptC A l) (hN : N = l.length) (hS : SsP l) (hr : validP l = r) :
    Calls Tryd.prog 12 #[.slice A N c] w fun e w' => e = .returned (.bool r) ∧ Below w.heap.size w w' := by
  have HN := Lib.hid hN
  cases hp2 : isP l with
  | false =>
    have HR := Lib.hid (show r = false by rw [← hr]; exact validP_lo hp2)
    have HP := Lib.hid hp2
    clear hr hp2 hN
    go_enter Tryd.func12, Tryd.ntmps12
    go_wp2_with (fail)
    refine (ref14Is_any A c N l false _ HN.out HP.out).mono ?_
    rintro e w1 ⟨rfl, hw1⟩
    obtain rfl := hw1.symm
    go_wp2
    go_ret
    exact ⟨by rw [HR.out]; rfl, Below.refl _ _⟩
  | true =>
    have hn := (isP_iff l).1 hp2
    have hl : N ≤ 1000000 := by have := HN.out; omega
    have HR := Lib.hid hr
    have HP := Lib.hid hp2
    clear hr hp2 hN
    go_enter Tryd.func12, Tryd.ntmps12
    go_wp2_with (fail)
    refine (ref14Is_any A c N l true _ HN.out HP.out).mono ?_
    rintro e w1 ⟨rfl, hw1⟩
    obtain rfl := hw1.symm
    obtain ⟨s, hs⟩ : ∃ s, orP l = s := ⟨_, rfl⟩
    go_wp2_with (fail)
    refine (ref14Or_any A c N l s T _ ha HN.out hl hS hs).mono ?_
    rintro e w2 ⟨rfl, hb2⟩
    have HS := Lib.hid hs
    have hn1 : N ≤ 64 := by have := HN.out; omega
    clear hs hn
    go_wp2
    go_loopw [4] (fun i wr => VaRel w l s i wr) (fun i _ => N - (intOf i).toNat)
    case atStart => exact ⟨0, rfl, Nat.zero_le _, goodTo_zero _ _, hb2⟩
    case round =>
      clear hb2
      obtain ⟨i, rfl, hi, hg, hb⟩ := hrel
      rw [← HN.out] at hi
      have HG := Lib.hid hg
      clear hg
      by_cases hgo : i < N
      · obtain ⟨q, hq⟩ : ∃ q, q = nx N i := ⟨_, rfl⟩
        have hqN : q < N := by rw [hq]; exact nx_lt (by omega)
        have hrem : ((i : Int) + 1).tmod (N : Int) = (q : Int) := by rw [hq]; exact tmod_nx hgo
        have hsum : IntKind.i64.wrap ((i : Int) + 1) = (i : Int) + 1 := wrap_i64' (by omega) (by omega)
        have HQ := Lib.hid hq
        clear hq
        go_wp2
        go_loopw [5] (fun j wr => VbRel w l s i j wr) (fun j _ => N - (intOf j).toNat)
        case atStart => exact ⟨0, rfl, Nat.zero_le _, rowTo_zero _ _ _, hb⟩
        case round =>
          clear hb
          obtain ⟨j, rfl, hj, hw, hb⟩ := hrel
          rw [← HN.out] at hj
          have HW := Lib.hid hw
          clear hw
          by_cases hgj : j < N
          · by_cases e1 : j = i
            · have d1 : ((j : Int) != (i : Int)) = false := by rw [bne_eq_false_iff_eq]; omega
              have HI := Lib.hid (rowTo_skip HW.out (.inl e1))
              clear e1
              go_wp2
              go_roundw
              case rel => exact ⟨j + 1, by go_num, by rw [← HN.out]; omega, HI.out, hb⟩
              case measure => simp [intOf]; omega
            · have d1 : ((j : Int) != (i : Int)) = true := by rw [bne_iff_ne]; omega
              by_cases e2 : j = q
              · have d2 : ((j : Int) != (q : Int)) = false := by rw [bne_eq_false_iff_eq]; omega
                have HI := Lib.hid (rowTo_skip HW.out (.inr (by rw [e2, HQ.out, HN.out])))
                clear e1 e2
                go_wp2
                go_roundw
                case rel => exact ⟨j + 1, by go_num, by rw [← HN.out]; omega, HI.out, hb⟩
                case measure => simp [intOf]; omega
              · have d2 : ((j : Int) != (q : Int)) = true := by rw [bne_iff_ne]; omega
                obtain ⟨x, hx⟩ : ∃ x, side l i (Go.Proofs.YtkiecjacbfmblaaDoor.at_ l j) = x := ⟨_, rfl⟩
                obtain ⟨b, o, rfl, hz1, hz2, hz3⟩ := (ha.next hb).pt_ (k := j) (by rw [← HN.out]; exact hgj)
                obtain ⟨p0, p1⟩ := (ha.next hb).pt2 (k := j) (by rw [← HN.out]; exact hgj)
                have HY := Lib.hid (hS.ss (k := j) (by rw [← HN.out]; exact hgj))
                have HX := Lib.hid hx
                have HE := Lib.hid (And.intro e1 e2)
                obtain ⟨Y, hY⟩ : ∃ Y, Y = Go.Proofs.YtkiecjacbfmblaaDoor.at_ l j := ⟨_, rfl⟩
                rw [← hY] at p0 p1 HX HY
                have HZ := Lib.hid hY
                have HA := Lib.hid ha
                clear hx hz1 hz2 hz3 e1 e2 hY ha
                go_wp2_with (fail)
                refine (ref14Side_any _ c N l i Y x T _ (HA.out.next hb) HN.out hl hgo hS HY.out HX.out).mono ?_
                rintro e w3 ⟨rfl, hb3⟩
                have h3 := hb.trans (hb3.mono hb.size)
                by_cases e3 : x = s
                · have d3 : (x != s) = false := by rw [bne_eq_false_iff_eq]; exact e3
                  have HI := Lib.hid (rowTo_succ HW.out (by rw [← HZ.out, HX.out, e3]))
                  clear e3 hb3 p0 p1
                  go_wp2
                  go_roundw
                  case rel => exact ⟨j + 1, by go_num, by rw [← HN.out]; omega, HI.out, h3⟩
                  case measure => simp [intOf]; omega
                · have d3 : (x != s) = true := by rw [bne_iff_ne]; exact e3
                  have HF := Lib.hid (show r = false by rw [← HR.out]; exact validP_no HS.out (i := i) (j := j) (by rw [← HN.out]; exact hgo) (by rw [← HN.out]; exact hgj) HE.out.1 (by rw [← HN.out, ← HQ.out]; exact HE.out.2) (by rw [← HZ.out, HX.out]; exact e3))
                  clear e3 hb3 p0 p1
                  go_wp2
                  go_ret
                  exact ⟨by rw [HF.out]; rfl, h3⟩
          · have HI := Lib.hid (goodTo_succ HG.out (by have h := HW.out; rw [show j = l.length by rw [← HN.out]; omega] at h; exact h))
            go_wp2
            go_roundw
            case rel => exact ⟨i + 1, by go_num, by rw [← HN.out]; omega, HI.out, hb⟩
            case measure => simp [intOf]; omega
      · have HV := Lib.hid (validP_end HP.out HS.out (by have h := HG.out; rw [show i = l.length by rw [← HN.out]; omega] at h; exact h))
        obtain ⟨z, hz⟩ : ∃ z, (s != 0) = z := ⟨_, rfl⟩
        have HZ := Lib.hid hz
        go_wp2
        go_ret
        exact ⟨by rw [← HR.out, HV.out, HZ.out]; rfl, hb⟩
theorem lit_evE (w : World) (k a b : Int) : EvsR (w.alloc (.cells #[.int .i64 k, .int .i64 a, .int .i64 b] 65)) (fun g => w.heap.size ≤ g) (some ⟨w.heap.size, 0, none⟩) [⟨k, a, b⟩] := fun _ => by
  refine ⟨w.heap.size, 0, rfl, Nat.le_refl _, fun j x hx => ?_⟩
  match j, hx with
  | 0, hx => simp at hx; subst hx; simp [go_sem]
/-- What a call that makes a row of events of its own gives. -/
def GivesE (w : World) (l : List Ev) (e : Ending) (w' : World) : Prop := ∃ v, e = .returned v ∧ w'.ownsRow w.heap.size 65 3 v l.length (l.flatMap evC) ∧ Below w.heap.size w w'
theorem own_ev1 {w : World} {base : Nat} {v : Value} {L M : List Ev} {e : Ev} (hM : M = L ++ [e]) (h : w.ownsRow base 65 3 v (L.length + [e].length) (L.flatMap evC ++ [e].flatMap evC)) : w.ownsRow base 65 3 v M.length (M.flatMap evC) := by
  subst hM
  rw [List.length_append, List.flatMap_append]; exact h
def LeRel (w : World) (n : Nat) (v i : Value) (wr : World) : Prop := ∃ k : Nat, i = .int .i64 k ∧ k ≤ n ∧ wr.ownsRow w.heap.size 65 3 v (evR 5 k).length ((evR 5 k).flatMap evC) ∧ Below w.heap.size w wr
theorem evR_len_ (kind : Int) (n : Nat) : (evR kind n).length = n := by unfold evR; simp
set_option maxHeartbeats 1000000 in
theorem ref14LocateEvents_any (n : Nat) (l : List Ev) (w : World) (hn : n ≤ 1000000) (hl : locateE n = l) :
    Calls Tryd.prog 21 #[.int .i64 n] w (GivesE w l) := by
  cases ho : okN n with
  | false =>
    have hs : ¬ 3 ≤ n ∨ ¬ n ≤ 64 := by have h : ¬ (3 ≤ n ∧ n ≤ 64) := fun h => by rw [(okN_iff n).2 h] at ho; cases ho
                                       omega
    obtain rfl : l = [] := by rw [← hl]; unfold locateE; rw [ho]; rfl
    clear hl ho
    have HS := Lib.hid hs
    clear hs
    go_enter Tryd.func21, Tryd.ntmps21
    go_wp2
    go_loopw [3, 4] (fun v i wr => v = .slice none 0 0 ∧ i = .int .i64 0 ∧ wr = w) (fun _ i _ => n - (intOf i).toNat)
    case atStart => exact ⟨rfl, rfl, rfl⟩
    case round =>
      obtain ⟨rfl, rfl, rfl⟩ := hrel
      by_cases h0 : 0 < n
      · by_cases h3 : 3 ≤ n
        · have h64 : ¬ n ≤ 64 := by rcases HS.out with h | h; exact absurd h3 h; exact h
          go_wp2
          go_ret
          exact ⟨_, rfl, World.ownsRow_nil _ _ _ _, Below.refl _ _⟩
        · go_wp2
          go_ret
          exact ⟨_, rfl, World.ownsRow_nil _ _ _ _, Below.refl _ _⟩
      · go_wp2
        go_ret
        exact ⟨_, rfl, World.ownsRow_nil _ _ _ _, Below.refl _ _⟩
  | true =>
    have hs := (okN_iff n).1 ho
    have HL := Lib.hid (show l = evR 5 n by rw [← hl]; unfold locateE; rw [if_pos ho])
    obtain ⟨h3, h64⟩ := hs
    clear hl ho
    go_enter Tryd.func21, Tryd.ntmps21
    go_wp2
    go_loopw [3, 4] (fun v i wr => LeRel w n v i wr) (fun _ i _ => n - (intOf i).toNat)
    case atStart => exact ⟨0, rfl, Nat.zero_le _, World.ownsRow_nil _ _ _ _, Below.refl _ _⟩
    case round =>
      obtain ⟨k, rfl, hk, hrow, hb⟩ := hrel
      by_cases hgo : k < n
      · obtain ⟨L, hL⟩ : ∃ L, L = evR 5 k := ⟨_, rfl⟩
        have hLl : L.length ≤ 1000 := by rw [hL, evR_len_]; omega
        have HM := Lib.hid (show evR 5 (k + 1) = L ++ [⟨5, k, 0⟩] by rw [hL]; exact evR_succ 5 k)
        rw [← hL] at hrow
        have hbs := hb.size
        clear hL
        go_wp2_with (first
          | (at_builtin; refine wp_app_ev rfl _ _ rfl w.heap.size _ L.length (L.flatMap evC) rfl (hrow.alloc _) (some ⟨wr.heap.size, 0, none⟩) 1 [⟨5, k, 0⟩] (fun g => wr.heap.size ≤ g) rfl (lit_evE wr 5 k 0) (fun h => by cases h) (by simp; omega) (by simp; omega) ?_
             intro v' w2 hrow2 hgrow2
             have hb2 : Below w.heap.size w w2 := (hb.alloc hbs (.cells #[.int .i64 5, .int .i64 k, .int .i64 0] 65)).grown hgrow2 (by simp; omega) (fun g hg => (World.ownsRow.lt hrow g hg).1)
             have HW := Lib.hid (own_ev1 HM.out hrow2)
             clear hrow2 hgrow2 hrow hb))
        go_roundw
        case rel => exact ⟨k + 1, by go_num, hgo, HW.out, hb2⟩
        case measure => simp [intOf]; omega
      · obtain rfl : k = n := by omega
        have HW := Lib.hid hrow
        clear hrow
        go_wp2
        go_ret
        exact ⟨_, rfl, by rw [HL.out]; exact HW.out, hb⟩
def VeRel (w : World) (n : Nat) (v i : Value) (wr : World) : Prop := ∃ k : Nat, i = .int .i64 k ∧ k ≤ n ∧ wr.ownsRow w.heap.size 65 3 v (validB n k).length ((validB n k).flatMap evC) ∧ Below w.heap.size w wr
def VfRel (w : World) (n i : Nat) (v j : Value) (wr : World) : Prop := ∃ k : Nat, j = .int .i64 k ∧ k ≤ n ∧ wr.ownsRow w.heap.size 65 3 v (validB n i ++ otherE n i k).length ((validB n i ++ otherE n i k).flatMap evC) ∧ Below w.heap.size w wr
theorem vf_start {w wr : World} {n i : Nat} {v : Value} (h : wr.ownsRow w.heap.size 65 3 v (validB n i).length ((validB n i).flatMap evC)) : wr.ownsRow w.heap.size 65 3 v (validB n i ++ otherE n i 0).length ((validB n i ++ otherE n i 0).flatMap evC) := by
  have e : otherE n i 0 = [] := rfl
  rw [e, List.append_nil]; exact h
theorem vf_skip {n i k : Nat} (h : k = i ∨ k = nx n i) : validB n i ++ otherE n i (k + 1) = validB n i ++ otherE n i k := by rw [otherE_succ, if_pos h, List.append_nil]
theorem vf_add {n i k : Nat} (h1 : k ≠ i) (h2 : k ≠ nx n i) : validB n i ++ otherE n i (k + 1) = (validB n i ++ otherE n i k) ++ [⟨4, i, k⟩] := by rw [otherE_succ, if_neg (by omega), List.append_assoc]
theorem vf_len {n i k : Nat} (hn : n ≤ 64) (hi : i ≤ n) (hk : k ≤ n) : (validB n i ++ otherE n i k).length ≤ 8192 := by
  have h1 := validB_len n i
  have h2 := otherE_len n i k
  have h3 : i * n ≤ 64 * 64 := Nat.mul_le_mul (by omega) hn
  rw [List.length_append]; omega
set_option maxHeartbeats 2000000 in
theorem ref14ValidEvents_any (n : Nat) (l : List Ev) (w : World) (hn : n ≤ 1000000) (hl : validE n = l) :
    Calls Tryd.prog 20 #[.int .i64 n] w (GivesE w l) := by
  cases ho : okN n with
  | false =>
    have hs : ¬ 3 ≤ n ∨ ¬ n ≤ 64 := by have h : ¬ (3 ≤ n ∧ n ≤ 64) := fun h => by rw [(okN_iff n).2 h] at ho; cases ho
                                       omega
    obtain rfl : l = [] := by rw [← hl]; unfold validE; rw [ho]; rfl
    clear hl ho
    have HS := Lib.hid hs
    clear hs
    go_enter Tryd.func20, Tryd.ntmps20
    go_wp2
    go_loopw [3, 4] (fun v i wr => v = .slice none 0 0 ∧ i = .int .i64 0 ∧ wr = w) (fun _ i _ => n - (intOf i).toNat)
    case atStart => exact ⟨rfl, rfl, rfl⟩
    case round =>
      obtain ⟨rfl, rfl, rfl⟩ := hrel
      by_cases h0 : 0 < n
      · by_cases h3 : 3 ≤ n
        · have h64 : ¬ n ≤ 64 := by rcases HS.out with h | h; exact absurd h3 h; exact h
          go_wp2
          go_ret
          exact ⟨_, rfl, World.ownsRow_nil _ _ _ _, Below.refl _ _⟩
        · go_wp2
          go_ret
          exact ⟨_, rfl, World.ownsRow_nil _ _ _ _, Below.refl _ _⟩
      · go_wp2
        go_ret
        exact ⟨_, rfl, World.ownsRow_nil _ _ _ _, Below.refl _ _⟩
  | true =>
    have hs := (okN_iff n).1 ho
    have HL := Lib.hid (show l = validB n n by rw [← hl]; unfold validE; rw [if_pos ho])
    obtain ⟨h3, h64⟩ := hs
    have d64 : decide ((n : Int) ≤ 64) = true := decide_eq_true (by omega)
    clear hl ho
    go_enter Tryd.func20, Tryd.ntmps20
    go_wp2
    go_loopw [3, 4] (fun v i wr => VeRel w n v i wr) (fun _ i _ => n - (intOf i).toNat)
    case atStart => exact ⟨0, rfl, Nat.zero_le _, World.ownsRow_nil _ _ _ _, Below.refl _ _⟩
    case round =>
      obtain ⟨i, rfl, hi, hrow, hb⟩ := hrel
      by_cases hgo : i < n
      · obtain ⟨q, hq⟩ : ∃ q, q = nx n i := ⟨_, rfl⟩
        have hrem : ((i : Int) + 1).tmod (n : Int) = (q : Int) := by rw [hq]; exact tmod_nx hgo
        have hsum : IntKind.i64.wrap ((i : Int) + 1) = (i : Int) + 1 := wrap_i64' (by omega) (by omega)
        have HQ := Lib.hid hq
        have HW0 := Lib.hid (vf_start hrow)
        clear hq hrow
        go_wp2
        go_loopw [3, 5] (fun v j wr => VfRel w n i v j wr) (fun _ j _ => n - (intOf j).toNat)
        case atStart => exact ⟨0, rfl, Nat.zero_le _, HW0.out, hb⟩
        case round =>
          clear HW0 hb
          obtain ⟨j, rfl, hj, hrow, hb⟩ := hrel
          have hlen := vf_len h64 hi hj
          by_cases hgj : j < n
          · by_cases e1 : j = i
            · have d1 : ((j : Int) != (i : Int)) = false := by rw [bne_eq_false_iff_eq]; omega
              have HI := Lib.hid (vf_skip (n := n) (i := i) (k := j) (.inl e1))
              have HW := Lib.hid hrow
              clear e1 hrow hlen
              go_wp2
              go_roundw
              case rel => exact ⟨j + 1, by go_num, hgj, by rw [HI.out]; exact HW.out, hb⟩
              case measure => simp [intOf]; omega
            · have d1 : ((j : Int) != (i : Int)) = true := by rw [bne_iff_ne]; omega
              by_cases e2 : j = q
              · have d2 : ((j : Int) != (q : Int)) = false := by rw [bne_eq_false_iff_eq]; omega
                have HI := Lib.hid (vf_skip (n := n) (i := i) (k := j) (.inr (by rw [e2, HQ.out])))
                have HW := Lib.hid hrow
                clear e1 e2 hrow hlen
                go_wp2
                go_roundw
                case rel => exact ⟨j + 1, by go_num, hgj, by rw [HI.out]; exact HW.out, hb⟩
                case measure => simp [intOf]; omega
              · have d2 : ((j : Int) != (q : Int)) = true := by rw [bne_iff_ne]; omega
                obtain ⟨L, hL⟩ : ∃ L, L = validB n i ++ otherE n i j := ⟨_, rfl⟩
                have HM := Lib.hid (show validB n i ++ otherE n i (j + 1) = L ++ [⟨4, i, j⟩] by rw [hL]; exact vf_add e1 (by rw [← HQ.out]; exact e2))
                rw [← hL] at hrow hlen
                have hbs := hb.size
                clear hL e1 e2
                go_wp2_with (first
                  | (at_builtin; refine wp_app_ev rfl _ _ rfl w.heap.size _ L.length (L.flatMap evC) rfl (hrow.alloc _) (some ⟨wr.heap.size, 0, none⟩) 1 [⟨4, i, j⟩] (fun g => wr.heap.size ≤ g) rfl (lit_evE wr 4 i j) (fun h => by cases h) (by simp; omega) (by simp; omega) ?_
                     intro v' w2 hrow2 hgrow2
                     have hb2 : Below w.heap.size w w2 := (hb.alloc hbs (.cells #[.int .i64 4, .int .i64 i, .int .i64 j] 65)).grown hgrow2 (by simp; omega) (fun g hg => (World.ownsRow.lt hrow g hg).1)
                     have HW := Lib.hid (own_ev1 HM.out hrow2)
                     clear hrow2 hgrow2 hrow hb hlen))
                go_roundw
                case rel => exact ⟨j + 1, by go_num, hgj, HW.out, hb2⟩
                case measure => simp [intOf]; omega
          · have HW := Lib.hid (show wr.ownsRow w.heap.size 65 3 _ (validB n (i + 1)).length ((validB n (i + 1)).flatMap evC) by rw [validB_succ]; have h := hrow; rw [show j = n by omega] at h; exact h)
            clear hrow hlen
            go_wp2
            go_roundw
            case rel => exact ⟨i + 1, by go_num, hgo, HW.out, hb⟩
            case measure => simp [intOf]; omega
      · obtain rfl : i = n := by omega
        have HW := Lib.hid hrow
        clear hrow
        go_wp2
        go_ret
        exact ⟨_, rfl, by rw [HL.out]; exact HW.out, hb⟩
end Go.Proofs.YtkiecjacbfmblaaDoor
