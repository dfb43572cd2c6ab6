/-
  Contracts of package polygon over the landed code: isPolygon, edges, Orientation. (Written by polygon.py.)
-/
import Derived.Test.YtkiecjacbfmblaaDoorPolyD
import Derived.Test.YtkiecjacbfmblaaDoorPtB
import Derived.Test.YtkiecjacbfmblaaDoorOrientC
import Derived.Test.YtkiecjacbfmblaaDoorMaskB
import Derived.Test.YtkiecjacbfmblaaDoorLp
import Derived.Shelf.Abstract
import Derived.Shelf.RegionOpen
import Derived.WalkKit
import Derived.OwnWalkIn
import Derived.TacticsInMore
import Derived.LoopNIn
import Derived.LoopIn
import Derived.Scope
namespace Go.Proofs.YtkiecjacbfmblaaDoor
open Go.RowKit Go.Maps Go.Shelf
set_option maxRecDepth 100000
set_option linter.unusedVariables false
set_option linter.unusedSimpArgs false
attribute [local go_sem] Oper.semAt_some

theorem orSign_d (a b c : Pt) (w : World) (hw : Wts w) (ha : S a.x ∧ S a.y) (hb : S b.x ∧ S b.y) (hc : S c.x ∧ S c.y) (r : Int) (hr : sgnP a b c = r) :
    Calls Tryd.prog 32 #[.agg #[.int .i64 a.x, .int .i64 a.y], .agg #[.int .i64 b.x, .int .i64 b.y], .agg #[.int .i64 c.x, .int .i64 c.y]] w fun e w' => e = .returned (.int .i64 r) ∧ Below w.heap.size w w' := by
  subst hr
  refine (gOrientSign (RInv.start0 (Ctx.ok_none (Below.refl w.heap.size w))) hw ha.1 ha.2 hb.1 hb.2 hc.1 hc.2).mono ?_
  rintro e w' ⟨v, rfl, ⟨s, rfl, hs⟩, hb⟩
  exact ⟨by rw [hs]; rfl, hb⟩
theorem isPoly_any (A : Option Addr) (c n : Nat) (r : Bool) (w : World) (hn : n ≤ 1000000) (hr : okN n = r) :
    Calls Tryd.prog 34 #[.slice A n c] w fun e w' => e = .returned (.bool r) ∧ w' = w := by
  by_cases h1 : 3 ≤ n
  · by_cases h2 : n ≤ 64
    · have HR := Lib.hid (show r = true by rw [← hr]; exact (okN_iff n).2 ⟨h1, h2⟩)
      clear hr
      go_enter Tryd.func34, Tryd.ntmps34
      go_wp2
      go_ret
      exact ⟨by rw [HR.out]; simp [go_sem, *] <;> omega, rfl⟩
    · have HR := Lib.hid (show r = false by rw [← hr]; unfold okN; rw [decide_eq_false h2]; simp)
      clear hr
      go_enter Tryd.func34, Tryd.ntmps34
      go_wp2
      go_ret
      exact ⟨by rw [HR.out]; simp [go_sem, *] <;> omega, rfl⟩
  · have HR := Lib.hid (show r = false by rw [← hr]; unfold okN; rw [decide_eq_false h1]; simp)
    clear hr
    go_enter Tryd.func34, Tryd.ntmps34
    go_wp2
    go_ret
    exact ⟨by rw [HR.out]; simp [go_sem, *] <;> omega, rfl⟩
theorem edges_any (A : Option Addr) (n c : Nat) (w : World) :
    Calls Tryd.prog 29 #[.slice A n c] w fun e w' => e = .returned (.func (.func 45) #[] #[.pointer (some ⟨w.heap.size, 0, none⟩)]) ∧ w' = w.alloc (.cells #[.slice A n c] 22) := by
  go_enter Tryd.func29, Tryd.ntmps29
  go_wp2
  go_ret
  exact ⟨rfl, rfl⟩
/-- What the iterator reads between two rounds. -/
def PreE (bv : Nat) (A : Option Addr) (n c : Nat) (W : World) : Prop := W.heap[bv]? = some (.cells #[.slice A n c] 22 (0, 0))
set_option maxHeartbeats 2000000 in
theorem edges_yes (bv : Nat) (A : Option Addr) (n c : Nat) (hn : okN n = true) :
    Yields Fence.wide 8 Tryd.prog 45 #[.pointer (some ⟨bv, 0, none⟩)] (fun k => #[.int .i64 k, .int .i64 (nx n k : Nat)]) n (fun _ W => PreE bv A n c W) (fun _ => Eq) Eq := fun r J Jx W hP hY h0 => by
  obtain ⟨h3, h64⟩ := (okN_iff n).1 hn
  have HO := Lib.hid hn
  clear hn
  refine callsIn_of_wp Tryd.func45 rfl trivial ?_ rfl
  simp only [Tryd.ntmps45, List.size_toArray, List.length_cons, List.length_nil, Nat.reduceAdd, Nat.reduceSub, Array.replicate_succ, Array.replicate_zero, List.push_toArray, List.append_toArray, List.nil_append, List.cons_append]
  have c0 := (cells_one (hP 0 W h0)).1
  gi_wp2_with (fail)
  refine ⟨trivial, (callsIn_wide.2 (isPoly_any A c n true W (by omega) HO.out)).mono ?_⟩
  rintro e w' ⟨rfl, hw'⟩
  obtain rfl := hw'.symm
  gi_wp2
  gi_loopw [9] (fun i wr => ∃ k : Nat, i = .int .i64 k ∧ k ≤ n ∧ J k wr) (fun i _ => n - (intOf i).toNat)
  case atStart => exact ⟨0, rfl, Nat.zero_le _, h0⟩
  case round =>
    clear c0 h0
    obtain ⟨k, rfl, hkn, hJ⟩ := hrel
    have c0 := (cells_one (hP k wr hJ)).1
    by_cases hgo : k < n
    · obtain ⟨q, hq⟩ : ∃ q, q = nx n k := ⟨_, rfl⟩
      have hrem : ((k : Int) + 1).tmod (n : Int) = (q : Int) := by rw [hq]; exact tmod_nx hgo
      have hsum : IntKind.i64.wrap ((k : Int) + 1) = (k : Int) + 1 := wrap_i64' (by omega) (by omega)
      have hN0 : ¬ n = 0 := by omega
      obtain ⟨fn, tmps, assign, body, hy, hR⟩ := hY k wr wr hgo hJ rfl
      rw [← hq] at hy
      clear hq
      gi_wp2_with (fail)
      refine hR.mono ?_
      rintro e W3 (⟨rfl, hJ3⟩ | ⟨rfl, hx⟩)
      · gi_wp2
        go_roundw
        case rel => exact ⟨k + 1, by go_num, hgo, hJ3⟩
        case measure => simp [intOf]; omega
      · gi_wp2
        refine bodyPost_ret (results_none rfl _ _ _) rfl ?_
        exact ⟨⟨_, rfl⟩, .inr ⟨_, hx, rfl⟩⟩
    · gi_wp2
      go_end0
      exact ⟨⟨_, rfl⟩, .inl ⟨_, by rwa [show n = k by omega], rfl⟩⟩
theorem edges_no (bv : Nat) (A : Option Addr) (n c : Nat) (hl : n ≤ 1000000) (hn : okN n = false) :
    Yields Fence.wide 8 Tryd.prog 45 #[.pointer (some ⟨bv, 0, none⟩)] (fun k => #[.int .i64 k, .int .i64 (nx n k : Nat)]) 0 (fun _ W => PreE bv A n c W) (fun _ => Eq) Eq := fun r J Jx W hP hY h0 => by
  have HO := Lib.hid hn
  clear hn
  refine callsIn_of_wp Tryd.func45 rfl trivial ?_ rfl
  simp only [Tryd.ntmps45, List.size_toArray, List.length_cons, List.length_nil, Nat.reduceAdd, Nat.reduceSub, Array.replicate_succ, Array.replicate_zero, List.push_toArray, List.append_toArray, List.nil_append, List.cons_append]
  have c0 := (cells_one (hP 0 W h0)).1
  gi_wp2_with (fail)
  refine ⟨trivial, (callsIn_wide.2 (isPoly_any A c n false W hl HO.out)).mono ?_⟩
  rintro e w' ⟨rfl, hw'⟩
  obtain rfl := hw'.symm
  gi_wp2
  refine bodyPost_ret (results_none rfl _ _ _) rfl ?_
  exact ⟨⟨_, rfl⟩, .inl ⟨_, h0, rfl⟩⟩
theorem orP_no_ {l : List Pt} (h : isP l = false) : orP l = 0 := by unfold orP; rw [h]; rfl
theorem polyOr_c (A : Option Addr) (n c : Nat) (l : List Pt) (r : Int) (Q : Nat → Prop) (w : World) (hw : Wts w) (ha : RowR w Q 2 ptC A l) (hn : n = l.length) (hl : n ≤ 1000000) (hS : SsP l) (hr : orP l = r) :
    Calls Tryd.prog 13 #[.slice A n c] w fun e w' => e = .returned (.int .i64 r) ∧ Below w.heap.size w w' := by
  obtain ⟨N, hN⟩ : ∃ N, N = n := ⟨_, rfl⟩
  rw [← hN] at hn hl ⊢
  clear hN
  have HN := Lib.hid hn
  cases hp : okN N with
  | false =>
    have HR := Lib.hid (show r = 0 by rw [← hr]; exact orP_no_ (by rw [← okN_isP, ← hn]; exact hp))
    have HP := Lib.hid hp
    clear hr hp hn
    go_enter Tryd.func13, Tryd.ntmps13
    go_wp2_with (fail)
    refine (isPoly_any A c N false w hl HP.out).mono ?_
    rintro e w1 ⟨rfl, hw1⟩
    obtain rfl := hw1.symm
    go_wp2
    go_ret
    exact ⟨by rw [HR.out]; rfl, Below.refl _ _⟩
  | true =>
    have hh := (okN_iff N).1 hp
    obtain ⟨b, o, rfl, hz1, hz2, hz3⟩ := ha.pt_ (k := 0) (by omega)
    have p01 := ha.pt2 (k := 0) (by omega)
    have q01 := ha.pt2 (k := 1) (by omega)
    have x01 := ha.pt2 (k := 2) (by omega)
    rw [Nat.zero_mul, Nat.add_zero] at p01
    rw [Nat.one_mul, show o + 2 + 1 = o + 3 from rfl] at q01
    rw [show o + 2 * 2 = o + 4 from rfl, show o + 4 + 1 = o + 5 from rfl] at x01
    obtain ⟨p0, p1⟩ := p01
    obtain ⟨q0, q1⟩ := q01
    obtain ⟨x0, x1⟩ := x01
    have HR0 := Lib.hid (show sgnP (Go.Proofs.YtkiecjacbfmblaaDoor.at_ l 0) (Go.Proofs.YtkiecjacbfmblaaDoor.at_ l 1) (Go.Proofs.YtkiecjacbfmblaaDoor.at_ l 2) = r by rw [← hr]; unfold orP; rw [if_pos (by rw [← okN_isP, ← hn]; exact hp)])
    have HP0 := Lib.hid (hS.ss (k := 0) (by omega))
    have HQ0 := Lib.hid (hS.ss (k := 1) (by omega))
    have HX0 := Lib.hid (hS.ss (k := 2) (by omega))
    generalize Go.Proofs.YtkiecjacbfmblaaDoor.at_ l 0 = P at *
    generalize Go.Proofs.YtkiecjacbfmblaaDoor.at_ l 1 = Q at *
    generalize Go.Proofs.YtkiecjacbfmblaaDoor.at_ l 2 = X at *
    have HR := HR0
    have HP := HP0
    have HQ := HQ0
    have HX := HX0
    have HI := Lib.hid hp
    have hN1 : 0 < N := by omega
    have hN2 : (1 : Int) < (N : Int) := by omega
    have hN3 : (2 : Int) < (N : Int) := by omega
    clear hr hp hn HR0 HP0 HQ0 HX0 hz1 hz2 hz3
    go_enter Tryd.func13, Tryd.ntmps13
    go_wp2_with (fail)
    refine (isPoly_any _ c N true w hl HI.out).mono ?_
    rintro e w1 ⟨rfl, hw1⟩
    obtain rfl := hw1.symm
    clear ha hS hh HI
    go_wp2
    refine dir_plain (by kernel_rfl) 11 [[], [(6, 0)], [(7, 1)], [], [(9, 3)], [(10, 4)], [], [(12, 6)], [(13, 7)], [(8, 2), (11, 5), (14, 8)], [(15, 9)]] [(6, 0), (7, 1), (8, 2), (9, 3), (10, 4), (11, 5), (12, 6), (13, 7), (14, 8), (15, 9), (2, 10)] [
        (fun v _ => v = .slice (some ⟨b, o, none⟩) N c),
        (fun v _ => v = .pointer (some ⟨b, o, none⟩)),
        (fun v _ => v = .agg #[.int .i64 P.x, .int .i64 P.y]),
        (fun v _ => v = .slice (some ⟨b, o, none⟩) N c),
        (fun v _ => v = .pointer (some ⟨b, (o + 2), none⟩)),
        (fun v _ => v = .agg #[.int .i64 Q.x, .int .i64 Q.y]),
        (fun v _ => v = .slice (some ⟨b, o, none⟩) N c),
        (fun v _ => v = .pointer (some ⟨b, (o + 4), none⟩)),
        (fun v _ => v = .agg #[.int .i64 X.x, .int .i64 X.y]),
        (fun v _ => v = .int .i64 r),
        (fun v _ => v = .int .i64 r)
      ] (by kernel_rfl) (by kernel_rfl) (by kernel_rfl) (by decide) ⟨dstab_eq, dstab_eq, dstab_eq, dstab_eq, dstab_eq, dstab_eq, dstab_eq, dstab_eq, dstab_eq, dstab_eq, dstab_eq, trivial⟩ ?steps ?fin
    case steps =>
      refine ⟨?_, ?_, ?_, ?_, ?_, ?_, ?_, ?_, ?_, ?_, ?_, trivial⟩
      · intro vs g w2 hI hF hR K hK
        simp only [Facts, fill, Act.put, z1, z2, z3, z4, z5, Nat.reduceAdd] at hF hR hK ⊢
        go_simp
        exact hK _ () _ hI (Below.refl _ _) rfl
      · intro vs g w2 hI hF hR K hK
        simp only [Facts, fill, Act.put, z1, z2, z3, z4, z5, Nat.reduceAdd] at hF hR hK ⊢
        obtain ⟨r0, -⟩ := hR
        generalize vs 0 = x0 at *
        subst r0
        have HM1 := hN1
        go_simp
        exact hK _ () _ hI (Below.refl _ _) rfl
      · intro vs g w2 hI hF hR K hK
        simp only [Facts, fill, Act.put, z1, z2, z3, z4, z5, Nat.reduceAdd] at hF hR hK ⊢
        obtain ⟨r1, -⟩ := hR
        generalize vs 1 = x1 at *
        subst r1
        have k0 := (hI.cell (lt_of_cell p0)).trans p0
        have k1 := (hI.cell (lt_of_cell p1)).trans p1
        go_simp
        exact hK _ () _ hI (Below.refl _ _) rfl
      · intro vs g w2 hI hF hR K hK
        simp only [Facts, fill, Act.put, z1, z2, z3, z4, z5, Nat.reduceAdd] at hF hR hK ⊢
        go_simp
        exact hK _ () _ hI (Below.refl _ _) rfl
      · intro vs g w2 hI hF hR K hK
        simp only [Facts, fill, Act.put, z1, z2, z3, z4, z5, Nat.reduceAdd] at hF hR hK ⊢
        obtain ⟨r3, -⟩ := hR
        generalize vs 3 = x3 at *
        subst r3
        have HM1 := hN2
        go_simp
        exact hK _ () _ hI (Below.refl _ _) rfl
      · intro vs g w2 hI hF hR K hK
        simp only [Facts, fill, Act.put, z1, z2, z3, z4, z5, Nat.reduceAdd] at hF hR hK ⊢
        obtain ⟨r4, -⟩ := hR
        generalize vs 4 = x4 at *
        subst r4
        have k0 := (hI.cell (lt_of_cell q0)).trans q0
        have k1 := (hI.cell (lt_of_cell q1)).trans q1
        go_simp
        exact hK _ () _ hI (Below.refl _ _) rfl
      · intro vs g w2 hI hF hR K hK
        simp only [Facts, fill, Act.put, z1, z2, z3, z4, z5, Nat.reduceAdd] at hF hR hK ⊢
        go_simp
        exact hK _ () _ hI (Below.refl _ _) rfl
      · intro vs g w2 hI hF hR K hK
        simp only [Facts, fill, Act.put, z1, z2, z3, z4, z5, Nat.reduceAdd] at hF hR hK ⊢
        obtain ⟨r6, -⟩ := hR
        generalize vs 6 = x6 at *
        subst r6
        have HM1 := hN3
        go_simp
        exact hK _ () _ hI (Below.refl _ _) rfl
      · intro vs g w2 hI hF hR K hK
        simp only [Facts, fill, Act.put, z1, z2, z3, z4, z5, Nat.reduceAdd] at hF hR hK ⊢
        obtain ⟨r7, -⟩ := hR
        generalize vs 7 = x7 at *
        subst r7
        have k0 := (hI.cell (lt_of_cell x0)).trans x0
        have k1 := (hI.cell (lt_of_cell x1)).trans x1
        go_simp
        exact hK _ () _ hI (Below.refl _ _) rfl
      · intro vs g w2 hI hF hR K hK
        simp only [Facts, fill, Act.put, z1, z2, z3, z4, z5, Nat.reduceAdd] at hF hR hK ⊢
        obtain ⟨r2, r5, r8, -⟩ := hR
        generalize vs 2 = x2, vs 5 = x5, vs 8 = x8 at *
        subst r2 r5 r8
        go_simp
        refine (orSign_d P Q X w2 (hw.below hI) HP.out HQ.out HX.out r HR.out).mono ?_
        rintro e w3 ⟨rfl, hb⟩
        exact hK _ () _ (hI.trans (hb.mono hI.size)) hb rfl
      · intro vs g w2 hI hF hR K hK
        simp only [Facts, fill, Act.put, z1, z2, z3, z4, z5, Nat.reduceAdd] at hF hR hK ⊢
        obtain ⟨r9, -⟩ := hR
        generalize vs 9 = x9 at *
        subst r9
        go_simp
        exact hK _ () _ hI (Below.refl _ _) rfl
    case fin =>
      intro vs w2 hI hR
      have r10 := hR 10 (by decide)
      simp only [fill, Act.put, z1, z2, z3, z4, z5] at r10 ⊢
      clear hR
      generalize vs 10 = x10 at *
      subst r10
      refine NoPanic.normal ?_
      go_wp2
      go_ret
      exact ⟨rfl, hI⟩
end Go.Proofs.YtkiecjacbfmblaaDoor
