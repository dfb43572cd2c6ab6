/-
  Contracts of package sorting over the landed code: Clean, Less, Count. (Written by sort13.py.)
-/
import Derived.Test.YthdghhfdbckilaaDoorRcL
import Derived.Test.YthdghhfdbckilaaDoorTapeL
import Derived.Test.YthdghhfdbckilaaDoorTail
namespace Go.Proofs.YthdghhfdbckilaaDoor
open Go.RowKit Go.Maps
set_option maxRecDepth 100000
set_option linter.unusedVariables false
set_option linter.unusedSimpArgs false

theorem bitS (a : Int) (ha : U a) (w : World) : Calls Tryd.prog 31 #[.int .u64 a] w fun e w' => e = .returned (.int .u64 (a % 2)) ∧ Below w.heap.size w w' :=
  (bit_any a ha w).mono fun e w' ⟨h1, h2⟩ => ⟨h1, h2 ▸ Below.refl _ _⟩
theorem selectS (m a b : Int) (w : World) : Calls Tryd.prog 32 #[.int .u64 m, .int .u64 a, .int .u64 b] w fun e w' => e = .returned (.int .u64 (sel m a b)) ∧ Below w.heap.size w w' :=
  (select_any m a b w).mono fun e w' ⟨h1, h2⟩ => ⟨h1, h2 ▸ Below.refl _ _⟩
theorem ofS (a : Int) (ha : U a) (w : World) (hw : Wts w) : Calls Tryd.prog 33 #[.int .u64 a] w fun e w' => e = .returned (.int .u64 (mk (decide (a % 2 = 1)))) ∧ Below w.heap.size w w' :=
  (of_any a ha w hw).mono fun e w' ⟨h1, n, h2⟩ => ⟨h1, h2 ▸ below_drewN' (Below.refl _ _) n⟩
theorem lessS (a b : Int) (ha : U a) (hb : U b) (w : World) (hw : Wts w) : Calls Tryd.prog 34 #[.int .u64 a, .int .u64 b] w fun e w' => e = .returned (.int .u64 (mk (decide (a < b)))) ∧ Below w.heap.size w w' :=
  (less_any a b ha hb w hw).mono fun e w' ⟨h1, n, h2⟩ => ⟨h1, h2 ▸ below_drewN' (Below.refl _ _) n⟩
theorem less_bits (a b c : Bool) : bits .and .u64 (mk a) (bits .or .u64 (bits .xor .u64 IntKind.u64.max (mk b)) (mk c)) = mk (a && (!b || c)) := by cases a <;> cases b <;> cases c <;> decide
theorem lessR_bits (x y : Rc) (hx : U x.id) (hy : U y.id) : (decide (x.live % 2 = 1) && (!decide (y.live % 2 = 1) || decide (x.id < y.id))) = lessR x y := by
  unfold U at hx hy
  unfold lessR rankR
  by_cases h1 : x.live % 2 = 1
  · by_cases h2 : y.live % 2 = 1
    · simp [h1, h2]
    · simp [h1, h2]; omega
  · by_cases h2 : y.live % 2 = 1
    · simp [h1, h2]; omega
    · simp [h1, h2]
theorem clean_bits (x : Rc) (hx : U x.id) : Rc.mk (x.live % 2) (sel (mk (decide (x.live % 2 = 1))) x.id 0) = cleanR x := by
  rw [sel_mk hx U_zero]
  unfold cleanR
  by_cases h : x.live % 2 = 1
  · simp [h]
  · have : x.live % 2 = 0 := by omega
    simp [this]
theorem cells_two {w : World} {b : Nat} {u v : Value} {t : TypeId} (h : w.heap[b]? = some (.cells #[u, v] t (0, 0))) : w.cell? ⟨b, 0, none⟩ = some u ∧ w.cell? ⟨b, 1, none⟩ = some v := by
  constructor <;> simp [World.cell?, h]
theorem frozen_block {w : World} {b : Nat} {cs : Array Value} {t : TypeId} (h : w.heap[b]? = some (.cells cs t (0, 0))) (o : Nat) : w.frozen? ⟨b, o, none⟩ = false := by simp [World.frozen?, h]
theorem cells_set2 {w : World} {b : Nat} {u v : Value} {t : TypeId} (h : w.heap[b]? = some (.cells #[u, v] t (0, 0))) (x y : Value) : ((w.setCell ⟨b, 0, none⟩ x).setCell ⟨b, 1, none⟩ y).cell? ⟨b, 0, none⟩ = some x ∧ ((w.setCell ⟨b, 0, none⟩ x).setCell ⟨b, 1, none⟩ y).cell? ⟨b, 1, none⟩ = some y := by
  have h1 : (w.setCell ⟨b, 0, none⟩ x).heap[b]? = some (.cells #[x, v] t (0, 0)) := by
    show (w.heap.modify b _)[b]? = _
    rw [Array.getElem?_modify, if_pos rfl, h]
    rfl
  have h2 : ((w.setCell ⟨b, 0, none⟩ x).setCell ⟨b, 1, none⟩ y).heap[b]? = some (.cells #[x, y] t (0, 0)) := by
    show ((w.setCell ⟨b, 0, none⟩ x).heap.modify b _)[b]? = _
    rw [Array.getElem?_modify, if_pos rfl, h1]
    rfl
  exact cells_two h2
set_option maxHeartbeats 1000000 in
theorem sortClean_any (a b : Int) (w : World) (hw : Wts w) (hx0 : U a) (hx1 : U b) :
    Calls Tryd.prog 10 #[.agg #[.int .u64 a, .int .u64 b]] w fun e w' => e = .returned (.agg #[.int .u64 (a % 2), .int .u64 (sel (mk (decide (a % 2 = 1))) b 0)]) ∧ Below w.heap.size w w' := by
  obtain ⟨W, hW⟩ : ∃ W, W = (w.alloc (.cells #[.int .u64 a, .int .u64 b] 24)).alloc (.cells #[.int .u64 0, .int .u64 0] 24) := ⟨_, rfl⟩
  obtain ⟨B, hB⟩ : ∃ B, B = w.heap.size := ⟨_, rfl⟩
  have h0 : Below w.heap.size w W := by rw [hW]; exact ((Below.refl _ _).alloc (Nat.le_refl _) _).alloc (by simp) _
  have k0 : W.cell? ⟨B, 0, none⟩ = some (.int .u64 a) := by rw [hW, hB]; simp [go_sem]
  have k1 : W.cell? ⟨B, 1, none⟩ = some (.int .u64 b) := by rw [hW, hB]; simp [go_sem]
  have hbk : W.heap[B + 1]? = some (.cells #[.int .u64 0, .int .u64 0] 24 (0, 0)) := by rw [hW, hB]; have := heap_alloc_new (w.alloc (.cells #[.int .u64 a, .int .u64 b] 24)) (.cells #[.int .u64 0, .int .u64 0] 24); simpa using this
  have hB1 : w.heap.size ≤ B + 1 := by omega
  have hwt := hw.below h0
  have HW := Lib.hid hW
  have HB := Lib.hid hB
  clear hW hB
  go_enter Tryd.func10, Tryd.ntmps10
  go_upto_region 1 with (fail)
  rw [← HW.out, ← HB.out]
  refine dir_plain (by kernel_rfl) 10 [[], [(3, 0)], [(4, 1)], [], [(6, 3)], [(7, 4)], [], [(9, 6)], [(8, 5), (10, 7)], [(5, 2), (11, 8)], [(12, 9)]] [(3, 0), (4, 1), (5, 2), (6, 3), (7, 4), (8, 5), (9, 6), (10, 7), (11, 8), (12, 9)] [
      (fun v _ => v = .pointer (some ⟨B, 0, none⟩)),
      (fun v _ => v = .int .u64 a),
      (fun v _ => v = .int .u64 (a % 2)),
      (fun v _ => v = .pointer (some ⟨B, 0, none⟩)),
      (fun v _ => v = .int .u64 a),
      (fun v _ => v = .int .u64 (mk (decide (a % 2 = 1)))),
      (fun v _ => v = .pointer (some ⟨B, 1, none⟩)),
      (fun v _ => v = .int .u64 b),
      (fun v _ => v = .int .u64 (sel (mk (decide (a % 2 = 1))) b 0)),
      (fun v _ => v = .agg #[.int .u64 (a % 2), .int .u64 (sel (mk (decide (a % 2 = 1))) b 0)])
    ] (by kernel_rfl) (by kernel_rfl) (by kernel_rfl) (by decide) ⟨dstab_eq, dstab_eq, dstab_eq, dstab_eq, dstab_eq, dstab_eq, dstab_eq, dstab_eq, dstab_eq, dstab_eq, trivial⟩ ?steps ?fin
  case steps =>
    refine ⟨?_, ?_, ?_, ?_, ?_, ?_, ?_, ?_, ?_, ?_, trivial⟩
    · intro vs g w2 hI hF hR K hK
      simp only [Facts, fill, Act.put, z1, z2, z3, z4, z5, Nat.reduceAdd] at hF hR hK ⊢
      go_simp
      exact hK _ () _ hI (Below.refl _ _) rfl
    · intro vs g w2 hI hF hR K hK
      simp only [Facts, fill, Act.put, z1, z2, z3, z4, z5, Nat.reduceAdd] at hF hR hK ⊢
      obtain ⟨r0, -⟩ := hR
      generalize vs 0 = x0 at *
      subst r0
      have k0 := (hI.cell (lt_of_cell k0)).trans k0
      go_simp
      exact hK _ () _ hI (Below.refl _ _) rfl
    · intro vs g w2 hI hF hR K hK
      simp only [Facts, fill, Act.put, z1, z2, z3, z4, z5, Nat.reduceAdd] at hF hR hK ⊢
      obtain ⟨r1, -⟩ := hR
      generalize vs 1 = x1 at *
      subst r1
      go_simp
      refine (bitS a hx0 _).mono ?_
      rintro e w3 ⟨rfl, hb⟩
      exact hK _ () _ (hI.trans (hb.mono hI.size)) hb rfl
    · intro vs g w2 hI hF hR K hK
      simp only [Facts, fill, Act.put, z1, z2, z3, z4, z5, Nat.reduceAdd] at hF hR hK ⊢
      go_simp
      exact hK _ () _ hI (Below.refl _ _) rfl
    · intro vs g w2 hI hF hR K hK
      simp only [Facts, fill, Act.put, z1, z2, z3, z4, z5, Nat.reduceAdd] at hF hR hK ⊢
      obtain ⟨r3, -⟩ := hR
      generalize vs 3 = x3 at *
      subst r3
      have k0 := (hI.cell (lt_of_cell k0)).trans k0
      go_simp
      exact hK _ () _ hI (Below.refl _ _) rfl
    · intro vs g w2 hI hF hR K hK
      simp only [Facts, fill, Act.put, z1, z2, z3, z4, z5, Nat.reduceAdd] at hF hR hK ⊢
      obtain ⟨r4, -⟩ := hR
      generalize vs 4 = x4 at *
      subst r4
      go_simp
      refine (ofS a hx0 _ (hwt.below hI)).mono ?_
      rintro e w3 ⟨rfl, hb⟩
      exact hK _ () _ (hI.trans (hb.mono hI.size)) hb rfl
    · intro vs g w2 hI hF hR K hK
      simp only [Facts, fill, Act.put, z1, z2, z3, z4, z5, Nat.reduceAdd] at hF hR hK ⊢
      go_simp
      exact hK _ () _ hI (Below.refl _ _) rfl
    · intro vs g w2 hI hF hR K hK
      simp only [Facts, fill, Act.put, z1, z2, z3, z4, z5, Nat.reduceAdd] at hF hR hK ⊢
      obtain ⟨r6, -⟩ := hR
      generalize vs 6 = x6 at *
      subst r6
      have k0 := (hI.cell (lt_of_cell k1)).trans k1
      go_simp
      exact hK _ () _ hI (Below.refl _ _) rfl
    · intro vs g w2 hI hF hR K hK
      simp only [Facts, fill, Act.put, z1, z2, z3, z4, z5, Nat.reduceAdd] at hF hR hK ⊢
      obtain ⟨r5, r7, -⟩ := hR
      generalize vs 5 = x5, vs 7 = x7 at *
      subst r5 r7
      go_simp
      refine (selectS (mk (decide (a % 2 = 1))) b 0 _).mono ?_
      rintro e w3 ⟨rfl, hb⟩
      exact hK _ () _ (hI.trans (hb.mono hI.size)) hb rfl
    · intro vs g w2 hI hF hR K hK
      simp only [Facts, fill, Act.put, z1, z2, z3, z4, z5, Nat.reduceAdd] at hF hR hK ⊢
      obtain ⟨r2, r8, -⟩ := hR
      generalize vs 2 = x2, vs 8 = x8 at *
      subst r2 r8
      go_simp
      exact hK _ () _ hI (Below.refl _ _) rfl
  case fin =>
    intro vs w2 hI hR
    have r9 := hR 9 (by decide)
    simp only [fill, Act.put, z1, z2, z3, z4, z5] at r9 ⊢
    clear hR
    generalize vs 9 = x9 at *
    subst r9
    have hbk2 := (hI.block _ (Array.getElem?_eq_some_iff.1 hbk).1).trans hbk
    obtain ⟨z0, z1⟩ := cells_two hbk2
    have f0 : w2.frozen? ⟨B + 1, 0, none⟩ = false := frozen_block hbk2 _
    have f1 : w2.frozen? ⟨B + 1, 1, none⟩ = false := frozen_block hbk2 _
    have hE := ((h0.trans (hI.mono h0.size)).setCell (p := ⟨B + 1, 0, none⟩) hB1 (.int .u64 (a % 2))).setCell (p := ⟨B + 1, 1, none⟩) hB1 (.int .u64 (sel (mk (decide (a % 2 = 1))) b 0))
    obtain ⟨e0, e1⟩ := cells_set2 hbk2 (.int .u64 (a % 2)) (.int .u64 (sel (mk (decide (a % 2 = 1))) b 0))
    refine wpOps_step rfl rfl ?_
    go_simp
    generalize (w2.setCell ⟨B + 1, 0, none⟩ (.int .u64 (a % 2))).setCell ⟨B + 1, 1, none⟩ (.int .u64 (sel (mk (decide (a % 2 = 1))) b 0)) = w3 at hE e0 e1 ⊢
    refine NoPanic.normal ?_
    go_wp2
    exact bodyPost_ret (v := .agg #[.int .u64 (a % 2), .int .u64 (sel (mk (decide (a % 2 = 1))) b 0)]) (by simp [results, Tryd.results10, go_sem, e0, e1]) rfl ⟨rfl, hE⟩
attribute [local go_sem] sgn_u64
set_option maxHeartbeats 1000000 in
theorem sortLess_any (a b c d : Int) (w : World) (hw : Wts w) (hx0 : U a) (hx1 : U b) (hy0 : U c) (hy1 : U d) :
    Calls Tryd.prog 12 #[.agg #[.int .u64 a, .int .u64 b], .agg #[.int .u64 c, .int .u64 d]] w fun e w' => e = .returned (.int .u64 (bits .and .u64 (mk (decide (a % 2 = 1))) (bits .or .u64 (bits .xor .u64 IntKind.u64.max (mk (decide (c % 2 = 1)))) (mk (decide (b < d)))))) ∧ Below w.heap.size w w' := by
  obtain ⟨W, hW⟩ : ∃ W, W = (w.alloc (.cells #[.int .u64 a, .int .u64 b] 24)).alloc (.cells #[.int .u64 c, .int .u64 d] 24) := ⟨_, rfl⟩
  obtain ⟨B, hB⟩ : ∃ B, B = w.heap.size := ⟨_, rfl⟩
  have h0 : Below w.heap.size w W := by rw [hW]; exact ((Below.refl _ _).alloc (Nat.le_refl _) _).alloc (by simp) _
  have k0 : W.cell? ⟨B, 0, none⟩ = some (.int .u64 a) := by rw [hW, hB]; simp [go_sem]
  have k1 : W.cell? ⟨B, 1, none⟩ = some (.int .u64 b) := by rw [hW, hB]; simp [go_sem]
  have q0 : W.cell? ⟨B + 1, 0, none⟩ = some (.int .u64 c) := by rw [hW, hB]; simp [go_sem]
  have q1 : W.cell? ⟨B + 1, 1, none⟩ = some (.int .u64 d) := by rw [hW, hB]; simp [go_sem]
  have hwt := hw.below h0
  have HW := Lib.hid hW
  have HB := Lib.hid hB
  clear hW hB
  go_enter Tryd.func12, Tryd.ntmps12
  go_upto_region 1 with (fail)
  rw [← HW.out, ← HB.out]
  refine dir_plain (by kernel_rfl) 15 [[], [(5, 0)], [(6, 1)], [], [(8, 3)], [(9, 4)], [(10, 5)], [], [(12, 7)], [], [(14, 9)], [(13, 8), (15, 10)], [(11, 6), (16, 11)], [(7, 2), (17, 12)], [(18, 13)]] [(5, 0), (6, 1), (7, 2), (8, 3), (9, 4), (10, 5), (11, 6), (12, 7), (13, 8), (14, 9), (15, 10), (16, 11), (17, 12), (18, 13), (4, 14)] [
      (fun v _ => v = .pointer (some ⟨B, 0, none⟩)),
      (fun v _ => v = .int .u64 a),
      (fun v _ => v = .int .u64 (mk (decide (a % 2 = 1)))),
      (fun v _ => v = .pointer (some ⟨(B + 1), 0, none⟩)),
      (fun v _ => v = .int .u64 c),
      (fun v _ => v = .int .u64 (mk (decide (c % 2 = 1)))),
      (fun v _ => v = .int .u64 (bits .xor .u64 IntKind.u64.max (mk (decide (c % 2 = 1))))),
      (fun v _ => v = .pointer (some ⟨B, 1, none⟩)),
      (fun v _ => v = .int .u64 b),
      (fun v _ => v = .pointer (some ⟨(B + 1), 1, none⟩)),
      (fun v _ => v = .int .u64 d),
      (fun v _ => v = .int .u64 (mk (decide (b < d)))),
      (fun v _ => v = .int .u64 (bits .or .u64 (bits .xor .u64 IntKind.u64.max (mk (decide (c % 2 = 1)))) (mk (decide (b < d))))),
      (fun v _ => v = .int .u64 (bits .and .u64 (mk (decide (a % 2 = 1))) (bits .or .u64 (bits .xor .u64 IntKind.u64.max (mk (decide (c % 2 = 1)))) (mk (decide (b < d)))))),
      (fun v _ => v = .int .u64 (bits .and .u64 (mk (decide (a % 2 = 1))) (bits .or .u64 (bits .xor .u64 IntKind.u64.max (mk (decide (c % 2 = 1)))) (mk (decide (b < d))))))
    ] (by kernel_rfl) (by kernel_rfl) (by kernel_rfl) (by decide) ⟨dstab_eq, dstab_eq, dstab_eq, dstab_eq, dstab_eq, dstab_eq, dstab_eq, dstab_eq, dstab_eq, dstab_eq, dstab_eq, dstab_eq, dstab_eq, dstab_eq, dstab_eq, trivial⟩ ?steps ?fin
  case steps =>
    refine ⟨?_, ?_, ?_, ?_, ?_, ?_, ?_, ?_, ?_, ?_, ?_, ?_, ?_, ?_, ?_, trivial⟩
    · intro vs g w2 hI hF hR K hK
      simp only [Facts, fill, Act.put, z1, z2, z3, z4, z5, Nat.reduceAdd] at hF hR hK ⊢
      go_simp
      exact hK _ () _ hI (Below.refl _ _) rfl
    · intro vs g w2 hI hF hR K hK
      simp only [Facts, fill, Act.put, z1, z2, z3, z4, z5, Nat.reduceAdd] at hF hR hK ⊢
      obtain ⟨r0, -⟩ := hR
      generalize vs 0 = x0 at *
      subst r0
      have k0 := (hI.cell (lt_of_cell k0)).trans k0
      go_simp
      exact hK _ () _ hI (Below.refl _ _) rfl
    · intro vs g w2 hI hF hR K hK
      simp only [Facts, fill, Act.put, z1, z2, z3, z4, z5, Nat.reduceAdd] at hF hR hK ⊢
      obtain ⟨r1, -⟩ := hR
      generalize vs 1 = x1 at *
      subst r1
      go_simp
      refine (ofS a hx0 _ (hwt.below hI)).mono ?_
      rintro e w3 ⟨rfl, hb⟩
      exact hK _ () _ (hI.trans (hb.mono hI.size)) hb rfl
    · intro vs g w2 hI hF hR K hK
      simp only [Facts, fill, Act.put, z1, z2, z3, z4, z5, Nat.reduceAdd] at hF hR hK ⊢
      go_simp
      exact hK _ () _ hI (Below.refl _ _) rfl
    · intro vs g w2 hI hF hR K hK
      simp only [Facts, fill, Act.put, z1, z2, z3, z4, z5, Nat.reduceAdd] at hF hR hK ⊢
      obtain ⟨r3, -⟩ := hR
      generalize vs 3 = x3 at *
      subst r3
      have k0 := (hI.cell (lt_of_cell q0)).trans q0
      go_simp
      exact hK _ () _ hI (Below.refl _ _) rfl
    · intro vs g w2 hI hF hR K hK
      simp only [Facts, fill, Act.put, z1, z2, z3, z4, z5, Nat.reduceAdd] at hF hR hK ⊢
      obtain ⟨r4, -⟩ := hR
      generalize vs 4 = x4 at *
      subst r4
      go_simp
      refine (ofS c hy0 _ (hwt.below hI)).mono ?_
      rintro e w3 ⟨rfl, hb⟩
      exact hK _ () _ (hI.trans (hb.mono hI.size)) hb rfl
    · intro vs g w2 hI hF hR K hK
      simp only [Facts, fill, Act.put, z1, z2, z3, z4, z5, Nat.reduceAdd] at hF hR hK ⊢
      obtain ⟨r5, -⟩ := hR
      generalize vs 5 = x5 at *
      subst r5
      go_simp
      exact hK _ () _ hI (Below.refl _ _) rfl
    · intro vs g w2 hI hF hR K hK
      simp only [Facts, fill, Act.put, z1, z2, z3, z4, z5, Nat.reduceAdd] at hF hR hK ⊢
      go_simp
      exact hK _ () _ hI (Below.refl _ _) rfl
    · intro vs g w2 hI hF hR K hK
      simp only [Facts, fill, Act.put, z1, z2, z3, z4, z5, Nat.reduceAdd] at hF hR hK ⊢
      obtain ⟨r7, -⟩ := hR
      generalize vs 7 = x7 at *
      subst r7
      have k0 := (hI.cell (lt_of_cell k1)).trans k1
      go_simp
      exact hK _ () _ hI (Below.refl _ _) rfl
    · intro vs g w2 hI hF hR K hK
      simp only [Facts, fill, Act.put, z1, z2, z3, z4, z5, Nat.reduceAdd] at hF hR hK ⊢
      go_simp
      exact hK _ () _ hI (Below.refl _ _) rfl
    · intro vs g w2 hI hF hR K hK
      simp only [Facts, fill, Act.put, z1, z2, z3, z4, z5, Nat.reduceAdd] at hF hR hK ⊢
      obtain ⟨r9, -⟩ := hR
      generalize vs 9 = x9 at *
      subst r9
      have k0 := (hI.cell (lt_of_cell q1)).trans q1
      go_simp
      exact hK _ () _ hI (Below.refl _ _) rfl
    · intro vs g w2 hI hF hR K hK
      simp only [Facts, fill, Act.put, z1, z2, z3, z4, z5, Nat.reduceAdd] at hF hR hK ⊢
      obtain ⟨r8, r10, -⟩ := hR
      generalize vs 8 = x8, vs 10 = x10 at *
      subst r8 r10
      go_simp
      refine (lessS b d hx1 hy1 _ (hwt.below hI)).mono ?_
      rintro e w3 ⟨rfl, hb⟩
      exact hK _ () _ (hI.trans (hb.mono hI.size)) hb rfl
    · intro vs g w2 hI hF hR K hK
      simp only [Facts, fill, Act.put, z1, z2, z3, z4, z5, Nat.reduceAdd] at hF hR hK ⊢
      obtain ⟨r6, r11, -⟩ := hR
      generalize vs 6 = x6, vs 11 = x11 at *
      subst r6 r11
      go_simp
      exact hK _ () _ hI (Below.refl _ _) rfl
    · intro vs g w2 hI hF hR K hK
      simp only [Facts, fill, Act.put, z1, z2, z3, z4, z5, Nat.reduceAdd] at hF hR hK ⊢
      obtain ⟨r2, r12, -⟩ := hR
      generalize vs 2 = x2, vs 12 = x12 at *
      subst r2 r12
      go_simp
      exact hK _ () _ hI (Below.refl _ _) rfl
    · intro vs g w2 hI hF hR K hK
      simp only [Facts, fill, Act.put, z1, z2, z3, z4, z5, Nat.reduceAdd] at hF hR hK ⊢
      obtain ⟨r13, -⟩ := hR
      generalize vs 13 = x13 at *
      subst r13
      go_simp
      exact hK _ () _ hI (Below.refl _ _) rfl
  case fin =>
    intro vs w2 hI hR
    have r14 := hR 14 (by decide)
    simp only [fill, Act.put, z1, z2, z3, z4, z5] at r14 ⊢
    clear hR
    generalize vs 14 = x14 at *
    subst r14
    refine NoPanic.normal ?_
    go_wp2
    exact bodyPost_ret (v := .int .u64 (bits .and .u64 (mk (decide (a % 2 = 1))) (bits .or .u64 (bits .xor .u64 IntKind.u64.max (mk (decide (c % 2 = 1)))) (mk (decide (b < d)))))) (by simp [results, Tryd.results12, go_sem]) rfl ⟨rfl, h0.trans (hI.mono h0.size)⟩
theorem sortClean_c (x : Rc) (w : World) (hw : Wts w) (hx : U x.live ∧ U x.id) :
    Calls Tryd.prog 10 #[.agg #[.int .u64 x.live, .int .u64 x.id]] w fun e w' => e = .returned (.agg #[.int .u64 (cleanR x).live, .int .u64 (cleanR x).id]) ∧ Below w.heap.size w w' := by
  rw [← clean_bits x hx.2]
  exact sortClean_any x.live x.id w hw hx.1 hx.2
theorem sortLess_c (x y : Rc) (r : Bool) (w : World) (hw : Wts w) (hx : U x.live ∧ U x.id) (hy : U y.live ∧ U y.id) (hr : lessR x y = r) :
    Calls Tryd.prog 12 #[.agg #[.int .u64 x.live, .int .u64 x.id], .agg #[.int .u64 y.live, .int .u64 y.id]] w fun e w' => e = .returned (.int .u64 (mk r)) ∧ Below w.heap.size w w' := by
  refine (sortLess_any x.live x.id y.live y.id w hw hx.1 hx.2 hy.1 hy.2).mono ?_
  rintro e w' ⟨rfl, hb⟩
  exact ⟨by rw [less_bits, lessR_bits x y hx.2 hy.2, hr], hb⟩
/-- What Count's loop keeps. -/
def CntRel (w : World) (T : Nat → Prop) (tv : Value) (evs : List Ev) (l : List Rc) (n i : Value) (wr : World) : Prop :=
  ∃ k : Nat, i = .int .i64 k ∧ k ≤ l.length ∧ n = .int .u64 (liveN (l.take k)) ∧ TapeO wr (fun g => T g ∨ w.heap.size ≤ g) tv (addT tv evs (evR 1 k)) ∧ Moved T w wr
set_option maxHeartbeats 2000000 in
theorem sortCount_c (tv : Value) (evs : List Ev) (T S : Nat → Prop) (A : Option Addr) (n c : Nat) (l : List Rc) (r : Int) (w : World) (hw : ∀ W, Moved T w W → Wts W) (ht : TapeO w T tv evs) (he : evs.length ≤ 500000) (ha : RowR w S 2 rcC A l) (hST : ∀ b, S b → ¬ T b) (hn : n = l.length) (hl : n ≤ 4096) (hU : UsR l) (hr : (liveN l : Int) = r) :
    Calls Tryd.prog 19 #[tv, .slice A n c] w fun e w' => e = .returned (.int .u64 r) ∧ TapeO w' (fun g => T g ∨ w.heap.size ≤ g) tv (addT tv evs (evR 1 n)) ∧ Moved T w w' := by
  subst hn
  have HR := Lib.hid hr
  have HE0 := Lib.hid he
  have ha := ha.now (fun _ => Nat.succ_pos 1)
  clear hr he
  go_enter Tryd.func19, Tryd.ntmps19
  go_wp2
  go_loopw [5, 10] (fun m i wr => CntRel w T tv evs l m i wr) (fun _ i _ => l.length - (intOf i).toNat)
  case atStart => exact ⟨0, rfl, Nat.zero_le _, rfl, by rw [show evR 1 0 = [] from rfl, addT_nil ht]; exact ht.imp fun g hg => .inl hg, Moved.refl _ _⟩
  case round =>
    obtain ⟨k, rfl, hk, rfl, htr, hmr⟩ := hrel
    clear ht
    by_cases hgo : k < l.length
    · obtain ⟨b, o, rfl, ⟨hSb, hbl⟩, hc0⟩ := ha.at_ hgo
      have hc := fun q u h => (hmr.cell (p := ⟨b, o + (k * 2 + q), none⟩) hbl (hST b hSb)).trans (hc0 q u h)
      have c0 := hc 0 _ rfl
      have c1 := hc 1 _ rfl
      rw [Nat.add_zero] at c0
      rw [← Nat.add_assoc] at c1
      clear hc hc0
      have HS := Lib.hid (liveN_snoc l k hgo)
      have hb0 : (liveN (l.take k) : Int) ≤ 4096 := by have := liveN_le (l.take k); rw [List.length_take] at this; omega
      have hux := (hU _ (List.getElem_mem hgo)).1
      obtain ⟨x, hx⟩ : ∃ x, x = (l[k]'hgo).live := ⟨_, rfl⟩
      obtain ⟨y, hy⟩ : ∃ y, y = (l[k]'hgo).id := ⟨_, rfl⟩
      obtain ⟨n0, hn0⟩ : ∃ n0 : Int, n0 = (liveN (l.take k) : Int) := ⟨_, rfl⟩
      rw [← hx, ← hn0] at HS
      rw [← hx] at c0 hux
      rw [← hy] at c1
      rw [← hn0] at hb0 ⊢
      have hn1 : 0 ≤ n0 := by omega
      have hx0 : 0 ≤ x := hux.1
      have hz : IntKind.u64.wrap (n0 + x % 2) = n0 + x % 2 := wrap_u64' (by omega) (by omega)
      clear hx hn0 hy
      obtain ⟨W, hW⟩ : ∃ W, W = wr.alloc (.cells #[.int .u64 x, .int .u64 y] 24) := ⟨_, rfl⟩
      obtain ⟨B, hB⟩ : ∃ B, B = wr.heap.size := ⟨_, rfl⟩
      have h0 : Below wr.heap.size wr W := by rw [hW]; exact (Below.refl _ _).alloc (Nat.le_refl _) _
      have k0 : W.cell? ⟨B, 0, none⟩ = some (.int .u64 x) := by rw [hW, hB]; simp [go_sem]
      have hBW : B < W.heap.size := lt_of_cell k0
      have hBr : ¬ B < wr.heap.size := by omega
      have ht2 := tape_mix htr h0
      have HW := Lib.hid hW
      have HB := Lib.hid hB
      have hel := HE0.out
      have hlen : (addT tv evs (evR 1 k)).length ≤ 1000000 := by have := addT_le tv evs (evR 1 k); rw [evR_len] at this; omega
      clear hW hB
      go_wp2_with (fail)
      rw [← HW.out, ← HB.out]
      refine (noteO_any tv _ _ 1 k 0 W ht2 hlen (by decide) (fun g hg => .inr hg)).mono ?_
      rintro e w3 ⟨rfl, ht3, hm3⟩
      have k3 := (hm3.cell (p := ⟨B, 0, none⟩) hBW (fun h => h.elim (fun h => hBr h.2) (fun h => absurd hBW (Nat.not_lt.2 h)))).trans k0
      have hm4 := moved_out hmr (moved_mix h0 hm3)
      rw [addT_evR] at ht3
      go_wp2_with (fail)
      refine (bitS x hux w3).mono ?_
      rintro e w4 ⟨rfl, hb4⟩
      go_wp2
      go_roundw
      case rel => exact ⟨k + 1, by go_num, hgo, by rw [HS.out], (ht3.next hb4).imp fun g hg => by rcases hg with hg | hg; exact hg.1; exact .inr (by have h1 := hmr.size; have h2 := h0.size; omega), hm4.trans (.of_below hb4)⟩
      case measure => simp [intOf]; omega
    · have hke : k = l.length := by omega
      subst hke
      have HE := Lib.hid (show l.take l.length = l from List.take_length)
      go_wp2
      go_ret
      exact ⟨by rw [HE.out, HR.out]; rfl, htr, hmr⟩
end Go.Proofs.YthdghhfdbckilaaDoor
