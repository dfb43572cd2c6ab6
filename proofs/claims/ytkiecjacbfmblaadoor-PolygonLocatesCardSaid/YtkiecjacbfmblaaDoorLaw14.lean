/-
  Layer 14: laws. (Written by law14.py.)
-/
import Derived.Test.YtkiecjacbfmblaaDoorRef14
import Derived.Test.YtkiecjacbfmblaaDoorPolyC
import Derived.Test.YtkiecjacbfmblaaDoorInsP
import Derived.Test.YtkiecjacbfmblaaDoorLaw10
import Derived.Test.YtkiecjacbfmblaaDoorWords
namespace Go.Proofs.YtkiecjacbfmblaaDoor
open Go.RowKit Go.Maps
set_option maxRecDepth 100000
set_option linter.unusedVariables false
set_option linter.unusedSimpArgs false

/-- A list of points that came in. -/
structure ArgP (w : World) (A : Option Addr) (c : Nat) (l : List Pt) : Prop where
  row : RowR w (fun _ => True) 2 ptC A l
  ss : SsP l
  nil : A = none → c = 0
theorem RowR.lowP {w : World} {A : Option Addr} {l : List Pt} (h : RowR w (fun _ => True) 2 ptC A l) : RowR w (fun b => b < w.heap.size) 2 ptC A l := (h.now (fun _ => by simp [ptC])).imp fun _ h => h.2
def sqP : List Pt := [⟨0, 0⟩, ⟨4, 0⟩, ⟨4, 4⟩, ⟨0, 4⟩]
def sq5 : List Pt := insL ⟨0, 0⟩ ⟨4, 0⟩ ⟨4, 4⟩ ⟨0, 4⟩ ⟨2, 0⟩
theorem sq_ss : SsP sqP := by intro p hp; simp [sqP] at hp; rcases hp with rfl | rfl | rfl | rfl <;> (unfold S; decide)
theorem sq5_ss : SsP sq5 := by intro p hp; simp [sq5, insL] at hp; rcases hp with rfl | rfl | rfl | rfl | rfl <;> (unfold S; decide)
theorem sq_1 : validP sqP = true := by decide +kernel
theorem sq_2 : validP sq5 = false := by decide +kernel
theorem sq_3 : locP sqP ⟨1, 1⟩ = 1 := by decide +kernel
theorem sq_4 : locP sqP ⟨4, 2⟩ = 0 := by decide +kernel
theorem sq_5 : locP sqP ⟨5, 2⟩ = -1 := by decide +kernel
theorem sq_6 : orP sqP = 1 := by decide +kernel
set_option maxHeartbeats 2000000 in
theorem alive14_any (w : World) (hw : Wts w) : Calls Tryd.prog 9 #[] w fun e w' => e = .returned (.bool true) ∧ Below w.heap.size w w' := by
  obtain ⟨W, hW⟩ : ∃ W, W = w.alloc (.cells #[.int .i64 0, .int .i64 0, .int .i64 4, .int .i64 0, .int .i64 4, .int .i64 4, .int .i64 0, .int .i64 4] 31) := ⟨_, rfl⟩
  obtain ⟨bv, hbv⟩ : ∃ bv, bv = w.heap.size := ⟨_, rfl⟩
  have h0 : Below w.heap.size w W := by rw [hW]; exact (Below.refl _ _).alloc (Nat.le_refl _) _
  have hr0 : RowR W (fun b => w.heap.size ≤ b) 2 ptC (some ⟨bv, 0, none⟩) sqP := by rw [hW, hbv]; exact row_lit (C := ptC) (fun _ => rfl) sqP
  have HW := Lib.hid hW
  have HB := Lib.hid hbv
  clear hW hbv
  go_enter Tryd.func9, Tryd.ntmps9
  go_upto_region 2 with (fail)
  rw [← HW.out, ← HB.out]
  go_wp2_with (fail)
  refine (clonePt_any _ 4 4 sqP (fun b => w.heap.size ≤ b) W hr0 rfl (fun h => by cases h) (by decide)).mono ?_
  rintro e w1 ⟨v1, rfl, hown1, hb1⟩
  have h1 := h0.trans (hb1.mono h0.size)
  obtain ⟨g, c, rfl, hg1, hg2⟩ := hown1.form (by decide)
  have hcap : 4 ≤ c ∧ c ≤ maxLen := by
    obtain ⟨A', c', e', h4, h5, _⟩ := own_rowR (C := ptC) (fun _ => rfl) (show w1.ownsRow _ _ 2 _ sqP.length (sqP.flatMap ptC) from hown1)
    injection e' with _ _ e'
    rw [e']; exact ⟨h4, h5⟩
  go_wp2_with (fail)
  refine (insertPt_any W.heap.size g c w1.heap.size 1 ⟨0, 0⟩ ⟨4, 0⟩ ⟨4, 4⟩ ⟨0, 4⟩ ⟨2, 0⟩ _ (hown1.alloc _) (by simp; have := hb1.size; omega) (heap_alloc_new w1 _) (by omega) hcap.1 hcap.2).mono ?_
  rintro e w2 ⟨v2, rfl, hown2, hb2⟩
  have hb12 : Below W.heap.size W w2 := (hb1.alloc hb1.size (.cells #[.int .i64 2, .int .i64 0] 31)).trans (hb2)
  have h2 := h0.trans (hb12.mono h0.size)
  obtain ⟨A2, c2, rfl, _, _, hr2, _⟩ := own_rowR (C := ptC) (fun _ => rfl) (show w2.ownsRow _ _ 2 _ sq5.length (sq5.flatMap ptC) from hown2)
  have hr1 := hr0.next hb12
  clear hown1 hown2 hb2 hb1 hr0 hcap
  go_wp2_with (fail)
  refine (polyValid_n (l := sqP) (hw.below h2) hr1 rfl (by decide) sq_ss sq_1).mono ?_
  rintro e w3 ⟨rfl, hb3⟩
  rw [show mk true = 18446744073709551615 from rfl]
  have h3 := h2.trans (hb3.mono h2.size)
  go_wp2_with (fail)
  refine (polyValid_n (l := sq5) (hw.below h3) (hr2.next hb3) rfl (by decide) sq5_ss sq_2).mono ?_
  rintro e w4 ⟨rfl, hb4⟩
  rw [show mk false = 0 from rfl]
  have h4 := h3.trans (hb4.mono h3.size)
  have hr4 := (hr1.next hb3).next hb4
  clear hr1 hr2 hb3 hb4
  go_wp2_with (fail)
  refine (polyLocate_n (l := sqP) (p := ⟨1, 1⟩) (hw.below h4) hr4 rfl (by decide) sq_ss (by unfold S; decide) sq_3).mono ?_
  rintro e w5 ⟨rfl, hb5⟩
  have h5 := h4.trans (hb5.mono h4.size)
  go_wp2_with (fail)
  refine (polyLocate_n (l := sqP) (p := ⟨4, 2⟩) (hw.below h5) (hr4.next hb5) rfl (by decide) sq_ss (by unfold S; decide) sq_4).mono ?_
  rintro e w6 ⟨rfl, hb6⟩
  have h6 := h5.trans (hb6.mono h5.size)
  go_wp2_with (fail)
  refine (polyLocate_n (l := sqP) (p := ⟨5, 2⟩) (hw.below h6) ((hr4.next hb5).next hb6) rfl (by decide) sq_ss (by unfold S; decide) sq_5).mono ?_
  rintro e w7 ⟨rfl, hb7⟩
  have h7 := h6.trans (hb7.mono h6.size)
  go_wp2_with (fail)
  refine (polyOr_c _ _ _ sqP 1 _ _ (hw.below h7) (((hr4.next hb5).next hb6).next hb7) rfl (by decide) sq_ss sq_6).mono ?_
  rintro e w8 ⟨rfl, hb8⟩
  go_wp2
  go_ret
  exact ⟨rfl, h7.trans (hb8.mono h7.size)⟩
set_option maxHeartbeats 1000000 in
theorem law_polygonValid (A : Option Addr) (c : Nat) (l : List Pt) (w : World) (hw : Wts w) (ha : ArgP w A c l) :
    Calls Tryd.prog 3 #[.slice A l.length c] w fun e w' => e = .returned (.bool true) ∧ Below w.heap.size w w' := by
  by_cases hgt : 70 < l.length
  · go_enter Tryd.func3, Tryd.ntmps3
    go_wp2_with (fail)
    refine (alive14_any _ (hw.below (Below.refl w.heap.size w))).mono ?_
    rintro e w1 ⟨rfl, hb⟩
    go_wp2
    go_ret
    exact ⟨rfl, (Below.refl w.heap.size w).trans (hb.mono (Below.refl w.heap.size w).size)⟩
  · obtain ⟨r, hr⟩ : ∃ r, validP l = r := ⟨_, rfl⟩
    obtain ⟨s, hs⟩ : ∃ s, orP l = s := ⟨_, rfl⟩
    have HR := Lib.hid hr
    have HS := Lib.hid hs
    clear hr hs
    go_enter Tryd.func3, Tryd.ntmps3
    go_wp2_with (fail)
    refine (alive14_any _ hw).mono ?_
    rintro e w1 ⟨rfl, h1⟩
    go_wp2_with (fail)
    refine (polyValid_n (hw.below h1) (ha.row.next h1) rfl (by omega) ha.ss HR.out).mono ?_
    rintro e w2 ⟨rfl, hb2⟩
    have h2 := h1.trans (hb2.mono h1.size)
    go_wp2_with (fail)
    refine (ref14Valid_any A c _ l r _ _ (ha.row.next h2) rfl ha.ss HR.out).mono ?_
    rintro e w3 ⟨rfl, hb3⟩
    have h3 := h2.trans (hb3.mono h2.size)
    go_wp2_with (fail)
    refine (refMask_any r _).mono ?_
    rintro e w4 ⟨rfl, hw4⟩
    obtain rfl := hw4.symm
    have hd1 : (mk r == mk r) = true := beq_self_eq_true _
    go_wp2_with (fail)
    refine (polyOr_c A _ c l s _ _ (hw.below h3) (ha.row.next h3) rfl (by omega) ha.ss HS.out).mono ?_
    rintro e w5 ⟨rfl, hb5⟩
    have h5 := h3.trans (hb5.mono h3.size)
    go_wp2_with (fail)
    refine (ref14Or_any A c _ l s _ _ (ha.row.next h5) rfl (by omega) ha.ss HS.out).mono ?_
    rintro e w6 ⟨rfl, hb6⟩
    have hd2 : (s == s) = true := beq_self_eq_true _
    go_wp2
    go_ret
    exact ⟨rfl, h5.trans (hb6.mono h5.size)⟩
set_option maxHeartbeats 1000000 in
theorem law_polygonLocates (A : Option Addr) (c : Nat) (l : List Pt) (p : Pt) (w : World) (hw : Wts w) (ha : ArgP w A c l) (hp : S p.x ∧ S p.y) :
    Calls Tryd.prog 4 #[.slice A l.length c, .agg #[.int .i64 p.x, .int .i64 p.y]] w fun e w' => e = .returned (.bool true) ∧ Below w.heap.size w w' := by
  have h00 : Below w.heap.size w (w.alloc (.cells #[.int .i64 p.x, .int .i64 p.y] 31)) := (Below.refl _ _).alloc (Nat.le_refl _) _
  by_cases hgt : 70 < l.length
  · go_enter Tryd.func4, Tryd.ntmps4
    go_wp2_with (fail)
    refine (alive14_any _ (hw.below (h00))).mono ?_
    rintro e w1 ⟨rfl, hb⟩
    go_wp2
    go_ret
    exact ⟨rfl, (h00).trans (hb.mono (h00).size)⟩
  · obtain ⟨N, hN⟩ : ∃ N, N = l.length := ⟨_, rfl⟩
    obtain ⟨r, hr⟩ : ∃ r, locP l p = r := ⟨_, rfl⟩
    obtain ⟨W, hW⟩ : ∃ W, W = w.alloc (.cells #[.int .i64 p.x, .int .i64 p.y] 31) := ⟨_, rfl⟩
    obtain ⟨bx, hbx⟩ : ∃ bx, bx = w.heap.size := ⟨_, rfl⟩
    have h0 : Below w.heap.size w W := by rw [hW]; exact h00
    have kx0 : W.cell? ⟨bx, 0, none⟩ = some (.int .i64 p.x) := by rw [hW, hbx]; simp [go_sem]
    have kx1 : W.cell? ⟨bx, 1, none⟩ = some (.int .i64 p.y) := by rw [hW, hbx]; simp [go_sem]
    have hwW : ∀ {w2 : World}, Below W.heap.size W w2 → Wts w2 := fun h => hw.below (h0.trans (h.mono h0.size))
    have hl : N ≤ 1000000 := by omega
    have hg7 : ¬ 70 < N := by omega
    have HP := Lib.hid hp
    have HR := Lib.hid hr
    have HN := Lib.hid hN
    have HW := Lib.hid hW
    have HB := Lib.hid hbx
    rw [← hN]
    clear hN hr hW hbx hgt hp h00
    go_enter Tryd.func4, Tryd.ntmps4
    go_upto_region 3 with (fail)
    rw [← HW.out, ← HB.out]
    refine dir_plain (by kernel_rfl) 11 [[], [(9, 0)], [(10, 1)], [(10, 1)], [(10, 1), (11, 2), (12, 3)], [(10, 1)], [(10, 1)], [(10, 1), (14, 5), (15, 6)], [(10, 1), (13, 4), (16, 7)], [(10, 1), (17, 8)], [(18, 9)]] [(9, 0), (10, 1), (11, 2), (12, 3), (13, 4), (14, 5), (15, 6), (16, 7), (17, 8), (18, 9), (4, 10)] [
        (fun v _ => v = .bool true),
        (fun v _ => v = .bool true),
        (fun v _ => v = .slice A N c),
        (fun v _ => v = .agg #[.int .i64 p.x, .int .i64 p.y]),
        (fun v _ => v = .int .i64 r),
        (fun v _ => v = .slice A N c),
        (fun v _ => v = .agg #[.int .i64 p.x, .int .i64 p.y]),
        (fun v _ => v = .int .i64 r),
        (fun v _ => v = .bool true),
        (fun v _ => v = .bool true),
        (fun v _ => v = .bool true)
      ] (by kernel_rfl) (by kernel_rfl) (by kernel_rfl) (by decide) ⟨dstab_eq, dstab_eq, dstab_eq, dstab_eq, dstab_eq, dstab_eq, dstab_eq, dstab_eq, dstab_eq, dstab_eq, dstab_eq, trivial⟩ ?steps ?fin
    case steps =>
      refine ⟨?_, ?_, ?_, ?_, ?_, ?_, ?_, ?_, ?_, ?_, ?_, trivial⟩
      · intro vs g w2 hI hF hR K hK
        simp only [Facts, fill, Act.put, z1, z2, z3, z4, z5, Nat.reduceAdd] at hF hR hK ⊢
        go_simp
        refine (alive14_any _ (hwW hI)).mono ?_
        rintro e w3 ⟨rfl, hb⟩
        exact hK _ () _ (hI.trans (hb.mono hI.size)) hb rfl
      · intro vs g w2 hI hF hR K hK
        simp only [Facts, fill, Act.put, z1, z2, z3, z4, z5, Nat.reduceAdd] at hF hR hK ⊢
        obtain ⟨r0, -⟩ := hR
        generalize vs 0 = x0 at *
        subst r0
        go_simp
        exact hK _ () _ hI (Below.refl _ _) rfl
      · intro vs g w2 hI hF hR K hK
        simp only [Facts, fill, Act.put, z1, z2, z3, z4, z5, Nat.reduceAdd] at hF hR hK ⊢
        obtain ⟨r1, -⟩ := hR
        generalize vs 1 = x1 at *
        subst r1
        go_simp
        exact hK _ () _ hI (Below.refl _ _) rfl
      · intro vs g w2 hI hF hR K hK
        simp only [Facts, fill, Act.put, z1, z2, z3, z4, z5, Nat.reduceAdd] at hF hR hK ⊢
        obtain ⟨r1, -⟩ := hR
        generalize vs 1 = x1 at *
        subst r1
        have k0 := (hI.cell (lt_of_cell kx0)).trans kx0
        have k1 := (hI.cell (lt_of_cell kx1)).trans kx1
        go_simp
        exact hK _ () _ hI (Below.refl _ _) rfl
      · intro vs g w2 hI hF hR K hK
        simp only [Facts, fill, Act.put, z1, z2, z3, z4, z5, Nat.reduceAdd] at hF hR hK ⊢
        obtain ⟨r1, r2, r3, -⟩ := hR
        generalize vs 1 = x1, vs 2 = x2, vs 3 = x3 at *
        subst r1 r2 r3
        go_simp
        refine (polyLocate_n (p := p) (hwW hI) (ha.row.next (h0.trans (hI.mono h0.size))) HN.out hl ha.ss HP.out HR.out).mono ?_
        rintro e w3 ⟨rfl, hb⟩
        exact hK _ () _ (hI.trans (hb.mono hI.size)) hb rfl
      · intro vs g w2 hI hF hR K hK
        simp only [Facts, fill, Act.put, z1, z2, z3, z4, z5, Nat.reduceAdd] at hF hR hK ⊢
        obtain ⟨r1, -⟩ := hR
        generalize vs 1 = x1 at *
        subst r1
        go_simp
        exact hK _ () _ hI (Below.refl _ _) rfl
      · intro vs g w2 hI hF hR K hK
        simp only [Facts, fill, Act.put, z1, z2, z3, z4, z5, Nat.reduceAdd] at hF hR hK ⊢
        obtain ⟨r1, -⟩ := hR
        generalize vs 1 = x1 at *
        subst r1
        have k0 := (hI.cell (lt_of_cell kx0)).trans kx0
        have k1 := (hI.cell (lt_of_cell kx1)).trans kx1
        go_simp
        exact hK _ () _ hI (Below.refl _ _) rfl
      · intro vs g w2 hI hF hR K hK
        simp only [Facts, fill, Act.put, z1, z2, z3, z4, z5, Nat.reduceAdd] at hF hR hK ⊢
        obtain ⟨r1, r5, r6, -⟩ := hR
        generalize vs 1 = x1, vs 5 = x5, vs 6 = x6 at *
        subst r1 r5 r6
        go_simp
        refine (ref14Locate_any A c N l p r _ _ (ha.row.next (h0.trans (hI.mono h0.size))) HN.out hl ha.ss HP.out HR.out).mono ?_
        rintro e w3 ⟨rfl, hb⟩
        exact hK _ () _ (hI.trans (hb.mono hI.size)) hb rfl
      · intro vs g w2 hI hF hR K hK
        simp only [Facts, fill, Act.put, z1, z2, z3, z4, z5, Nat.reduceAdd] at hF hR hK ⊢
        obtain ⟨r1, r4, r7, -⟩ := hR
        generalize vs 1 = x1, vs 4 = x4, vs 7 = x7 at *
        subst r1 r4 r7
        have hd := beq_self_eq_true r
        go_simp
        exact hK _ () _ hI (Below.refl _ _) rfl
      · intro vs g w2 hI hF hR K hK
        simp only [Facts, fill, Act.put, z1, z2, z3, z4, z5, Nat.reduceAdd] at hF hR hK ⊢
        obtain ⟨r1, r8, -⟩ := hR
        generalize vs 1 = x1, vs 8 = x8 at *
        subst r1 r8
        go_simp
        exact hK _ () _ hI (Below.refl _ _) rfl
      · intro vs g w2 hI hF hR K hK
        simp only [Facts, fill, Act.put, z1, z2, z3, z4, z5, Nat.reduceAdd] at hF hR hK ⊢
        obtain ⟨r9, -⟩ := hR
        generalize vs 9 = x9 at *
        subst r9
        go_simp
        exact hK _ () _ hI (Below.refl _ _) rfl
    case fin =>
      intro vs w2 hI hR
      have r10 := hR 10 (by decide)
      simp only [fill, Act.put, z1, z2, z3, z4, z5] at r10 ⊢
      clear hR
      generalize vs 10 = x10 at *
      subst r10
      refine NoPanic.normal ?_
      go_wp2
      go_ret
      exact ⟨rfl, h0.trans (hI.mono h0.size)⟩
theorem ev14_eq (A B : Option Addr) (c d n : Nat) (l : List Ev) (T U : Nat → Prop) (w : World) (ha : EvsR w T A l) (hb : EvsR w U B l) (hl : l.length ≤ 1000000) :
    Calls Tryd.prog 18 #[.slice A l.length c, .slice B l.length d] w fun e w' => e = .returned (.bool true) ∧ ∃ n, w' = w.drewN n := ref10Same_r A B c d l l T U w true ha hb hl hl (by simp)
set_option maxHeartbeats 1000000 in
theorem law_polygonEvents (A : Option Addr) (c : Nat) (l : List Pt) (p : Pt) (w : World) (hw : Wts w) (ha : ArgP w A c l) (hp : S p.x ∧ S p.y) :
    Calls Tryd.prog 5 #[.slice A l.length c, .agg #[.int .i64 p.x, .int .i64 p.y]] w fun e w' => e = .returned (.bool true) ∧ Below w.heap.size w w' := by
  have h00 : Below w.heap.size w (w.alloc (.cells #[.int .i64 p.x, .int .i64 p.y] 31)) := (Below.refl _ _).alloc (Nat.le_refl _) _
  by_cases hgt : 70 < l.length
  · go_enter Tryd.func5, Tryd.ntmps5
    go_wp2_with (fail)
    refine (alive14_any _ (hw.below (h00))).mono ?_
    rintro e w1 ⟨rfl, hb⟩
    go_wp2
    go_ret
    exact ⟨rfl, (h00).trans (hb.mono (h00).size)⟩
  · obtain ⟨N, hN⟩ : ∃ N, N = l.length := ⟨_, rfl⟩
    obtain ⟨W, hW⟩ : ∃ W, W = w.alloc (.cells #[.int .i64 p.x, .int .i64 p.y] 31) := ⟨_, rfl⟩
    obtain ⟨bx, hbx⟩ : ∃ bx, bx = w.heap.size := ⟨_, rfl⟩
    have h0 : Below w.heap.size w W := by rw [hW]; exact h00
    have kx0 : W.cell? ⟨bx, 0, none⟩ = some (.int .i64 p.x) := by rw [hW, hbx]; simp [go_sem]
    have kx1 : W.cell? ⟨bx, 1, none⟩ = some (.int .i64 p.y) := by rw [hW, hbx]; simp [go_sem]
    have hbW : bx < W.heap.size := lt_of_cell kx0
    have hl : N ≤ 1000000 := by omega
    have hg7 : ¬ 70 < N := by omega
    have hN7 : N ≤ 70 := by omega
    obtain ⟨E1, hE1⟩ : ∃ E1, validE N = E1 := ⟨_, rfl⟩
    obtain ⟨E2, hE2⟩ : ∃ E2, locateE N = E2 := ⟨_, rfl⟩
    have hl1 := validE_len N
    have hl2 := locateE_len N
    rw [hE1] at hl1
    rw [hE2] at hl2
    have HP := Lib.hid hp
    have HN := Lib.hid hN
    have HW := Lib.hid hW
    have HB := Lib.hid hbx
    have HE1 := Lib.hid hE1
    have HE2 := Lib.hid hE2
    have HL1 := Lib.hid hl1
    have HL2 := Lib.hid hl2
    rw [← hN]
    clear hN hW hbx hgt hp h00 hE1 hE2 hl1 hl2
    go_enter Tryd.func5, Tryd.ntmps5
    go_upto_region 3 with (fail)
    rw [← HW.out, ← HB.out]
    go_wp2_with (fail)
    refine (tapeNew_any W).mono ?_
    rintro e w1 ⟨tb, rfl, ht, hb1⟩
    have h1 := h0.trans (hb1.mono h0.size)
    go_wp2_with (fail)
    refine (tapeNew_any w1).mono ?_
    rintro e w2 ⟨tc, rfl, hu, hb2⟩
    have h2 := h1.trans (hb2.mono h1.size)
    have hs0 := h0.size
    have hs1 := hb1.size
    have hs2 := hb2.size
    have ht := ht.now.next hb2
    have hu := hu.now
    have hbW2 := hb1.trans (hb2.mono hs1)
    have k0 := (hbW2.cell (p := ⟨bx, 0, none⟩) hbW).trans kx0
    have k1 := (hbW2.cell (p := ⟨bx, 1, none⟩) hbW).trans kx1
    have hrow := ha.row.lowP.next h2
    go_wp2_with (fail)
    refine (polyValid_c _ [] (fun g => W.heap.size ≤ g ∧ g < w1.heap.size) (fun b => b < w.heap.size) A N c l (validP l) w2 (fun W' hm => hw.below (hm.below h2 (fun g hg => by omega) h2.size)) ht.o (by simp) hrow (fun b hb h => by omega) HN.out hl ha.ss rfl).mono ?_
    rintro e w3 ⟨rfl, ht3, hm3⟩
    have h3 := hm3.below h2 (fun g hg => by omega) h2.size
    rw [addT_some, List.nil_append, HE1.out] at ht3
    have hu3 := hu.keep (w' := w3) (fun b hb hlt => hm3.block b hlt (fun h => by omega))
    have hs3 := hm3.size
    have k0 := (hm3.cell (p := ⟨bx, 0, none⟩) (by show bx < w2.heap.size; omega) (fun h => by have : W.heap.size ≤ bx := h.1; omega)).trans k0
    have k1 := (hm3.cell (p := ⟨bx, 1, none⟩) (by show bx < w2.heap.size; omega) (fun h => by have : W.heap.size ≤ bx := h.1; omega)).trans k1
    clear ht hu
    go_wp2_with (fail)
    refine (polyLocate_c _ [] (fun g => w1.heap.size ≤ g ∧ g < w2.heap.size) (fun b => b < w.heap.size) A N c l p (locP l p) w3 (fun W' hm => hw.below (hm.below h3 (fun g hg => by omega) h3.size)) hu3.o (by simp) (ha.row.lowP.next h3) (fun b hb h => by omega) HN.out hl ha.ss HP.out rfl).mono ?_
    rintro e w4 ⟨rfl, hu4, hm4⟩
    have h4 := hm4.below h3 (fun g hg => by omega) h3.size
    rw [addT_some, List.nil_append, HE2.out] at hu4
    have ht4 := ht3.keep (w' := w4) (fun b hb hlt => hm4.block b hlt (fun h => by omega))
    clear ht3 hu3 hm3 hm4 hrow k0 k1 kx0 kx1
    go_wp2_with (fail)
    refine (alive14_any w4 (hw.below h4)).mono ?_
    rintro e w5 ⟨rfl, hb5⟩
    have h5 := h4.trans (hb5.mono h4.size)
    have ht5 := ht4.next hb5
    have hu5 := hu4.next hb5
    clear ht4 hu4
    go_wp2_with (fail)
    refine (tapeEvents_any _ E1 _ w5 ht5 (by have := HL1.out; omega)).mono ?_
    rintro e w6 ⟨A6, c6, rfl, _, hev6, hb6⟩
    have h6 := h5.trans (hb6.mono h5.size)
    go_wp2_with (fail)
    refine (ref14ValidEvents_any N E1 _ hl HE1.out).mono ?_
    rintro e w7 ⟨v7, rfl, hown7, hb7⟩
    have h7 := h6.trans (hb7.mono h6.size)
    obtain ⟨A7, c7, rfl, _, _, hev7⟩ := own_evs hown7
    go_wp2_with (fail)
    refine (ev14_eq A6 A7 c6 c7 0 E1 _ _ w7 (hev6.next hb7) hev7 (by have := HL1.out; omega)).mono ?_
    rintro e w8 ⟨rfl, n8, rfl⟩
    have hu8 := ((hu5.next hb6).next hb7).next (below_drewN' (Below.refl _ _) n8)
    have h8 := below_drewN' h7 n8
    clear hown7 hev6 hev7 ht5 hu5
    go_wp2_with (fail)
    refine (tapeEvents_any _ E2 _ _ hu8 (by have := HL2.out; omega)).mono ?_
    rintro e w9 ⟨A9, c9, rfl, _, hev9, hb9⟩
    have h9 := h8.trans (hb9.mono h8.size)
    go_wp2_with (fail)
    refine (ref14LocateEvents_any N E2 _ hl HE2.out).mono ?_
    rintro e wa ⟨va, rfl, howna, hba⟩
    have ha2 := h9.trans (hba.mono h9.size)
    obtain ⟨Aa, ca, rfl, _, _, heva⟩ := own_evs howna
    go_wp2_with (fail)
    refine (ev14_eq A9 Aa c9 ca 0 E2 _ _ wa (hev9.next hba) heva (by have := HL2.out; omega)).mono ?_
    rintro e wb ⟨rfl, nb, rfl⟩
    go_wp2
    go_ret
    exact ⟨rfl, below_drewN' ha2 nb⟩
end Go.Proofs.YtkiecjacbfmblaaDoor
