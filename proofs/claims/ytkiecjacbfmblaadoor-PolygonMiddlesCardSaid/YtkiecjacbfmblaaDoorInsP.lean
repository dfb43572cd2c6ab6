/-
  slices.Insert of one point at index 1 of four; copy between rows of elements of k cells.
-/
import Derived.Test.YtkiecjacbfmblaaDoorPtL
import Derived.Test.YtkiecjacbfmblaaDoorCopy
import Derived.Lib.Overlaps
import Derived.Lib.AppendZerosOnto
import Derived.Laws.IdiomCopy
import Derived.Laws.NewBlocks
import Derived.Laws.Externs
import Derived.Shelf.RegionOpenPlain
import Derived.Shelf.Spec.SlicesInsert
namespace Go.Proofs.YtkiecjacbfmblaaDoor
open Go.RowKit Go.Lib
set_option maxRecDepth 100000
set_option linter.unusedVariables false
set_option linter.unusedSimpArgs false

/-- A row with room, seen as a longer one. -/
theorem own_more {w : World} {base g n c k : Nat} {t : TypeId} {xs : List Value} (h : w.ownsRow base t k (.slice (some ⟨g, 0, none⟩) n c) n xs) (m : Nat) (h1 : n ≤ m) (h2 : m ≤ c) :
    ∃ ys, ys.length = m * k ∧ ys.take (n * k) = xs ∧ w.ownsRow base t k (.slice (some ⟨g, 0, none⟩) m c) m ys := by
  obtain ⟨hl, h⟩ := h
  rcases h with ⟨h0, _⟩ | ⟨g', cap, cur, h0, hb, hg, hn, hc, hs, ht⟩
  · cases h0
  · injection h0 with e1 _ e2
    injection e1 with e1
    injection e1 with e1
    subst e1 e2
    have hle : m * k ≤ c * k := Nat.mul_le_mul_right _ h2
    refine ⟨cur.toList.take (m * k), by simp; omega, ?_, by simp; omega, .inr ⟨g, c, cur, rfl, hb, hg, h2, hc, hs, rfl⟩⟩
    rw [List.take_take, Nat.min_eq_left (Nat.mul_le_mul_right _ h1), ht]
theorem own_shape {w : World} {base g n c k : Nat} {t : TypeId} {xs : List Value} (h : w.ownsRow base t k (.slice (some ⟨g, 0, none⟩) n c) n xs) : w.shape? g = some (t, c * k) := by
  obtain ⟨hl, h⟩ := h
  rcases h with ⟨h0, _⟩ | ⟨g', cap, cur, h0, hb, hg, hn, hc, hs, ht⟩
  · cases h0
  · injection h0 with e1 _ e2
    injection e1 with e1
    injection e1 with e1
    subst e1 e2
    simp [World.shape?, hg, hs]
theorem overlaps_no (w : World) (vb vo g o la ca lb cb kA kB : Nat) (hne : vb ≠ g) (tA tB : TypeId) (hsa : w.shape? vb = some (tA, kA)) (hsb : w.shape? g = some (tB, kB)) (hkB : kB ≠ 0) (hfa : ∀ j, w.frozen? ⟨vb, j, none⟩ = false) :
    (callFunc 42 #[.slice (some ⟨vb, vo, none⟩) la ca, .slice (some ⟨g, o, none⟩) lb cb]).run Tryd.prog w = .ok (.value (.bool false)) w := by
  obtain ⟨i0, hi, hz0, hz1, hz2⟩ := info_parts infoPt
  have hz : ∀ w, (Go.sizeOf 31).run Tryd.prog w = .ok 2 w := fun w => by simp [Go.sizeOf, typeInfo, hi, hz1]
  rw [run_callFunc_extern (f := 42) (fn := Tryd.f42) (by kernel_rfl) (by kernel_rfl) (by kernel_rfl) (by kernel_rfl) (e := Extern.SlicesOverlaps.overlaps #[22, 22] #[4]) (by kernel_rfl),
    Lib.run_overlaps_apart w 22 4 31 Tryd.underlying22 2 hz ⟨vb, vo, none⟩ ⟨g, o, none⟩ la ca lb cb hne tA tB kA kB hsa hsb hkB (hfa _) (hfa _)]
  rfl
theorem sizePt : (Tryd.prog.info? 31).map (·.size) = some 2 := by
  obtain ⟨i0, hi, hz0, hz1, hz2⟩ := info_parts infoPt
  rw [hi]; simp [hz1]
def insL (a b c d x : Pt) : List Pt := [a, x, b, c, d]
theorem one_cells (l : List Pt) : ∀ v ∈ l.flatMap ptC, v.oneCell' = true := elemPt.flat1 l
set_option maxHeartbeats 4000000 in
set_option maxRecDepth 100000 in
theorem insertPt_any (B g c vb vc : Nat) (p q r s x : Pt) (w : World) (hown : w.ownsRow B 31 2 (.slice (some ⟨g, 0, none⟩) 4 c) 4 ([p, q, r, s].flatMap ptC)) (hB : B ≤ w.heap.size)
    (hx : w.heap[vb]? = some (.cells #[.int .i64 x.x, .int .i64 x.y] 31 (0, 0))) (hne : vb ≠ g) (hc4 : 4 ≤ c) (hcm : c ≤ maxLen) :
    Calls Tryd.prog 27 #[.slice (some ⟨g, 0, none⟩) 4 c, .int .i64 1, .slice (some ⟨vb, 0, none⟩) 1 vc] w fun e w' => ∃ v, e = .returned v ∧ w'.ownsRow B 31 2 v 5 ((insL p q r s x).flatMap ptC) ∧ Below B w w' := by
  have hcm : c ≤ 9223372036854775807 := by unfold maxLen at hcm; omega
  have hx0 : w.cell? ⟨vb, 0, none⟩ = some (.int .i64 x.x) := by simp [World.cell?, hx]
  have hx1 : w.cell? ⟨vb, 1, none⟩ = some (.int .i64 x.y) := by simp [World.cell?, hx]
  have hxs : w.shape? vb = some (31, 2) := by simp [World.shape?, hx]
  have hxf : ∀ j, w.frozen? ⟨vb, j, none⟩ = false := fun j => by simp [World.frozen?, hx]
  have hBg : B ≤ g := (World.ownsRow.lt hown g rfl).1
  have hgw : g < w.heap.size := (World.ownsRow.lt hown g rfl).2
  have hvw : vb < w.heap.size := (Array.getElem?_eq_some_iff.1 hx).1
  have mixed : Tryd.prog.follows Departure.mixedOrders = true := by kernel_rfl
  by_cases hroom : 5 ≤ c
  · obtain ⟨ys, hyl, hyt, hown5⟩ := own_more hown 5 (by omega) hroom
    have hov : ∀ lb cb, (callFunc 42 #[.slice (some ⟨vb, 0, none⟩) 1 vc, .slice (some ⟨g, 4, none⟩) lb cb]).run Tryd.prog w = .ok (.value (.bool false)) w := fun lb cb =>
      overlaps_no w vb 0 g 4 1 vc lb cb 2 (c * 2) hne 31 31 hxs (own_shape hown) (by omega) hxf
    have hcell : ∀ j, j < 10 → w.cell? ⟨g, j, none⟩ = ys[j]? := fun j hj => World.ownsRow.cellAt hown5 j (by omega)
    have hsome : ∀ j, j < 10 → (w.cell? ⟨g, j, none⟩).isSome = true := fun j hj => by rw [hcell j hj, List.getElem?_eq_getElem (by omega)]; rfl
    have hfz : ∀ j, w.frozen? ⟨g, j, none⟩ = false := fun j => World.ownsRow.frozenAt hown5 j
    have hcp1 : ∀ ty dc sc, (Builtin.copy_ #[22, 22] ty #[.slice (some ⟨g, 4, none⟩) 3 dc, .slice (some ⟨g, 2, none⟩) 4 sc]).run Tryd.prog w.drew = .ok (goInt (3 : Nat)) (w.drew.setCells g 4 ([q, r, s].flatMap ptC)) := fun ty dc sc =>
      run_copy_k w.drew _ _ ty 31 2 g 4 3 dc ⟨g, 2, none⟩ 4 sc ([q, r, s].flatMap ptC) 3 Tryd.underlying22 sizePt rfl rfl
        (fun j v hj => by
          rw [Addr.add_lit]
          have hj6 : j < 6 := by have := (List.getElem?_eq_some_iff.1 hj).1; simpa [ptC] using this
          refine (hcell (2 + j) (by omega)).trans ?_
          have : ys[2 + j]? = (ys.take (4 * 2))[2 + j]? := by rw [List.getElem?_take, if_pos (by omega)]
          rw [this, hyt, ← hj]
          rw [show [p, q, r, s].flatMap ptC = ptC p ++ [q, r, s].flatMap ptC from rfl, List.getElem?_append_right (by simp [ptC])]
          congr 1
          simp [ptC])
        (fun j hj => hsome _ (by have : j < 6 := by simpa [ptC] using hj
                                 omega)) (fun j hj => hfz _) (one_cells _)
    obtain ⟨W1, hW1⟩ : ∃ W1, W1 = w.drew.setCells g 4 ([q, r, s].flatMap ptC) := ⟨_, rfl⟩
    have hown1 : W1.ownsRow B 31 2 (.slice (some ⟨g, 0, none⟩) 5 c) 5 (over ys 4 ([q, r, s].flatMap ptC)) := by rw [hW1]; exact own_over _ 4 _ _ hown5.drew
    have hb1 : Below B w W1 := by rw [hW1]; exact below_setCells hBg _ _ _ (Below.refl _ _).drew
    have hol : (over ys 4 ([q, r, s].flatMap ptC)).length = 10 := by have := hown1.1; omega
    have hcp2 : ∀ (W : World), (∀ x, W.cell? x = W1.cell? x) → (∀ x, W.frozen? x = W1.frozen? x) → ∀ ty dc, (Builtin.copy_ #[22, 22] ty #[.slice (some ⟨g, 2, none⟩) 4 dc, .slice (some ⟨vb, 0, none⟩) 1 vc]).run Tryd.prog W = .ok (goInt (1 : Nat)) (W.setCells g 2 (ptC x)) := fun W hWc hWf ty dc =>
      run_copy_k W _ _ ty 31 2 g 2 4 dc ⟨vb, 0, none⟩ 1 vc (ptC x) 1 Tryd.underlying22 sizePt rfl rfl
        (fun j v hj => by
          rw [Addr.add_lit, hWc, hW1, World.cell?_setCells_out g _ _ _ _ (fun h _ => absurd h hne)]
          match j, hj with
          | 0, hj => simp [ptC] at hj; subst hj; exact hx0
          | 1, hj => simp [ptC] at hj; subst hj; exact hx1)
        (fun j hj => by
          have : j < 2 := hj
          rw [hWc, World.ownsRow.cellAt hown1 _ (by omega), List.getElem?_eq_getElem (by omega)]; rfl)
        (fun j hj => by rw [hWf]; exact World.ownsRow.frozenAt hown1 _) (fun v hv => by simp [ptC] at hv; rcases hv with rfl | rfl <;> rfl)
    rw [← hW1] at hcp1
    have hfin : over (over ys 4 ([q, r, s].flatMap ptC)) 2 (ptC x) = (insL p q r s x).flatMap ptC := by
      match ys, hyl, hyt with
      | [a0, a1, a2, a3, a4, a5, a6, a7, a8, a9], _, hyt =>
        simp [ptC] at hyt
        obtain ⟨rfl, rfl, _⟩ := hyt
        rfl
    have HFIN := Lib.hid (show ∀ W : World, W.ownsRow B 31 2 (.slice (some ⟨g, 0, none⟩) 5 c) 5 (over ys 4 ([q, r, s].flatMap ptC)) → (W.setCells g 2 (ptC x)).ownsRow B 31 2 (.slice (some ⟨g, 0, none⟩) 5 c) 5 ((insL p q r s x).flatMap ptC) from fun W hW => by rw [← hfin]; exact own_over _ 2 _ _ hW)
    have HO := Lib.hid hown1
    have hw2 : IntKind.i64.wrap 2 = 2 := by kernel_rfl
    have hc2 : ¬ c = 2 := by omega
    have hc1 : ¬ c = 1 := by omega
    have hroom2 : ¬ ((c : Int) < 5) := by omega
    clear hx hx0 hx1 hxs hxf hcell hsome hfz hown hown5 hyl hyt hfin hol hown1 hW1
    go_enter Tryd.func27, Tryd.ntmps27
    go_wp2_with (simp only [hov])
    go_region_law_o (refine step_copy_runI rfl _ _ 22 22 rfl _ _ (by simp [Act.eval, Act.put]) (by simp [Act.eval, Act.put]) (hcp1 _ _ _) ?_)
    go_wp2_with (at_builtin; refine wpList_copy_runI _ rfl _ _ 22 22 rfl _ _ rfl rfl (hcp2 _ (fun _ => rfl) (fun _ => rfl) _ _) ?_)
    go_ret
    exact ⟨_, rfl, HFIN.out _ HO.out, below_setCells hBg _ _ _ hb1⟩
  · obtain rfl : c = 4 := by omega
    obtain ⟨i0, hi, hz0, hz1, hz2⟩ := info_parts infoPt
    have hcell : ∀ j, j < 8 → w.cell? ⟨g, j, none⟩ = ([p, q, r, s].flatMap ptC)[j]? := fun j hj => World.ownsRow.cellAt hown j (by omega)
    have hold : (Builtin.firstCells i0.size 1 (.slice (some ⟨g, 0, none⟩) 1 4)).run Tryd.prog w.drew = .ok (ptC p).toArray w.drew := by
      rw [hz1]
      exact run_firstCells_some w.drew 2 1 ⟨g, 0, none⟩ 1 4 (ptC p) rfl (fun j v hj => by
        rw [Addr.add_lit, Nat.zero_add]
        match j, hj with
        | 0, hj => simp [ptC] at hj; subst hj; exact hcell 0 (by omega)
        | 1, hj => simp [ptC] at hj; subst hj; exact hcell 1 (by omega))
    obtain ⟨G, hG⟩ : ∃ G, G = grownCap w 5 4 31 := ⟨_, rfl⟩
    obtain ⟨ROW, hROW⟩ : ∃ ROW : Array Value, ROW = (ptC p).toArray ++ Builtin.zeroCells (Value.agg #[.int .i64 0, .int .i64 0]).cells 4 ++ Builtin.zeroCells (Value.agg #[.int .i64 0, .int .i64 0]).cells (G - 5) := ⟨_, rfl⟩
    obtain ⟨W1, hW1⟩ : ∃ W1, W1 = w.drew.alloc (.cells ROW 31) := ⟨_, rfl⟩
    have hrz : ∀ ty, (Builtin.append_ #[22, 3] ty #[.slice (some ⟨g, 0, none⟩) 1 4, .int .i64 4]).run Tryd.prog w = .ok (.slice (some ⟨w.heap.size, 0, none⟩) 5 G) W1 := fun ty => by
      have h := Lib.run_append_grow_zeros w 22 3 ty 31 i0 _ .i64 .i64 Tryd.underlying22 Tryd.underlying3 hi hz0 (some ⟨g, 0, none⟩) 1 4 (ptC p) hold 4 (by omega) (by omega) (by omega) (by decide) (by rw [hz2]; decide) (by rw [hz2]; exact growslice_fits (by decide) (by decide))
      rw [hW1, hROW, hG]
      exact h
    have hG5 : 5 ≤ G := by rw [hG]; exact grownCap_ge w _ _ _
    have hGm : G ≤ maxLen := by rw [hG]; exact grownCap_le_maxLen w 5 4 _ (by unfold maxLen; omega)
    have hRs : ROW.size = G * 2 := by
      rw [hROW, Array.size_append, Array.size_append, size_zeroCells, size_zeroCells]
      simp [ptC, Value.cells]
      omega
    have hRt : (ROW.toList.take 10).take 2 = ptC p := by
      rw [hROW, List.take_take]
      simp [ptC, List.take_append]
    have hownN : W1.ownsRow B 31 2 (.slice (some ⟨w.heap.size, 0, none⟩) 5 G) 5 (ROW.toList.take 10) := by
      rw [hW1]
      exact ⟨by rw [List.length_take, Array.length_toList, hRs]; omega, .inr ⟨w.heap.size, G, ROW, rfl, hB, heap_alloc_new w.drew _, hG5, hGm, hRs, rfl⟩⟩
    have hb1 : Below B w W1 := by rw [hW1]; exact (Below.refl _ _).drew.alloc hB _
    obtain ⟨zs, hzs⟩ : ∃ zs, zs = ROW.toList.take 10 := ⟨_, rfl⟩
    rw [← hzs] at hownN hRt
    have hzl : zs.length = 10 := by have := hownN.1; omega
    have hcp1 : ∀ (W : World), (∀ x, W.cell? x = W1.cell? x) → (∀ x, W.frozen? x = W1.frozen? x) → ∀ ty dc, (Builtin.copy_ #[22, 22] ty #[.slice (some ⟨w.heap.size, 2, none⟩) 4 dc, .slice (some ⟨vb, 0, none⟩) 1 vc]).run Tryd.prog W = .ok (goInt (1 : Nat)) (W.setCells w.heap.size 2 (ptC x)) := fun W hWc hWf ty dc =>
      run_copy_k W _ _ ty 31 2 w.heap.size 2 4 dc ⟨vb, 0, none⟩ 1 vc (ptC x) 1 Tryd.underlying22 sizePt rfl rfl
        (fun j v hj => by
          rw [Addr.add_lit, hWc, hW1, World.cell?_alloc_past (w := w.drew) _ vb _ hvw]
          match j, hj with
          | 0, hj => simp [ptC] at hj; subst hj; exact hx0
          | 1, hj => simp [ptC] at hj; subst hj; exact hx1)
        (fun j hj => by
          have : j < 2 := hj
          rw [hWc, World.ownsRow.cellAt hownN _ (by omega), List.getElem?_eq_getElem (by omega)]; rfl)
        (fun j hj => by rw [hWf]; exact World.ownsRow.frozenAt hownN _) (fun v hv => by simp [ptC] at hv; rcases hv with rfl | rfl <;> rfl)
    obtain ⟨W2, hW2⟩ : ∃ W2 : World → World, W2 = fun W => W.setCells w.heap.size 2 (ptC x) := ⟨_, rfl⟩
    have hgo : ∀ j, W1.cell? ⟨g, j, none⟩ = w.cell? ⟨g, j, none⟩ := fun j => by rw [hW1, World.cell?_alloc_past (w := w.drew) _ g j hgw]; rfl
    have hcp2 : ∀ (W : World), (∀ x, W.cell? x = (W2 W1).cell? x) → (∀ x, W.frozen? x = (W2 W1).frozen? x) → ∀ ty dc sc, (Builtin.copy_ #[22, 22] ty #[.slice (some ⟨w.heap.size, 4, none⟩) 3 dc, .slice (some ⟨g, 2, none⟩) 3 sc]).run Tryd.prog W = .ok (goInt (3 : Nat)) (W.setCells w.heap.size 4 ([q, r, s].flatMap ptC)) := fun W hWc hWf ty dc sc => by
      have hownM : (W2 W1).ownsRow B 31 2 (.slice (some ⟨w.heap.size, 0, none⟩) 5 G) 5 (over zs 2 (ptC x)) := by rw [hW2]; exact own_over _ 2 _ _ hownN
      have hml := hownM.1
      exact run_copy_k W _ _ ty 31 2 w.heap.size 4 3 dc ⟨g, 2, none⟩ 3 sc ([q, r, s].flatMap ptC) 3 Tryd.underlying22 sizePt rfl rfl
        (fun j v hj => by
          have hj6 : j < 6 := by have := (List.getElem?_eq_some_iff.1 hj).1; simpa [ptC] using this
          rw [Addr.add_lit, hWc, hW2, World.cell?_setCells_out w.heap.size _ _ _ _ (fun h _ => absurd h (by show ¬ g = w.heap.size; omega)), hgo, hcell (2 + j) (by omega), ← hj]
          rw [show [p, q, r, s].flatMap ptC = ptC p ++ [q, r, s].flatMap ptC from rfl, List.getElem?_append_right (by simp [ptC])]
          congr 1
          simp [ptC])
        (fun j hj => by
          have : j < 6 := by simpa [ptC] using hj
          rw [hWc, World.ownsRow.cellAt hownM _ (by omega), List.getElem?_eq_getElem (by omega)]; rfl)
        (fun j hj => by rw [hWf]; exact World.ownsRow.frozenAt hownM _) (one_cells _)
    have hfin : over (over zs 2 (ptC x)) 4 ([q, r, s].flatMap ptC) = (insL p q r s x).flatMap ptC := by
      match zs, hzl, hRt with
      | [a0, a1, a2, a3, a4, a5, a6, a7, a8, a9], _, hyt =>
        simp [ptC] at hyt
        obtain ⟨rfl, rfl⟩ := hyt
        rfl
    have HFIN := Lib.hid (show ∀ W : World, W.ownsRow B 31 2 (.slice (some ⟨w.heap.size, 0, none⟩) 5 G) 5 (over zs 2 (ptC x)) → (W.setCells w.heap.size 4 ([q, r, s].flatMap ptC)).ownsRow B 31 2 (.slice (some ⟨w.heap.size, 0, none⟩) 5 G) 5 ((insL p q r s x).flatMap ptC) from fun W hW => by rw [← hfin]; exact own_over _ 4 _ _ hW)
    have HO := Lib.hid (own_over (ptC x) 2 _ _ hownN)
    have hb2 : Below B w (W1.setCells w.heap.size 2 (ptC x)) := below_setCells hB _ _ _ hb1
    have hG2 : ¬ G = 2 := by omega
    have hG1 : ¬ G = 1 := by omega
    have hG3 : G ≤ 9223372036854775807 := by unfold maxLen at hGm; omega
    have hw2 : IntKind.i64.wrap 2 = 2 := by kernel_rfl
    have hcp1b := hcp1 W1 (fun _ => rfl) (fun _ => rfl)
    obtain ⟨W3, hW3⟩ : ∃ W3, W3 = W1.setCells w.heap.size 2 (ptC x) := ⟨_, rfl⟩
    have hcp2b := hcp2 W3.drew (fun y => by rw [hW3, hW2]; rfl) (fun y => by rw [hW3, hW2]; rfl)
    rw [← hW3] at hcp1b HO hb2
    clear hx hx0 hx1 hxs hxf hcell hown hold hROW hW1 hG hRs hRt hownN hzs hzl hcp1 hcp2 hgo hfin hW2 hW3 hroom hi hz0 hz1 hz2 hGm
    go_enter Tryd.func27, Tryd.ntmps27
    go_wp2_with (first
      | (at_builtin; refine Lib.wpList_append_run _ rfl _ _ _ _ rfl _ _ rfl rfl _ _ (hrz _) ?_)
      | (at_builtin; refine wpList_copy_runI _ rfl _ _ 22 22 rfl _ _ rfl rfl (hcp1b _ _) ?_))
    go_region_law_o (refine step_copy_runI rfl _ _ 22 22 rfl _ _ (by simp [Act.eval, Act.put]) (by simp [Act.eval, Act.put]) (hcp2b _ _ _) ?_)
    go_wp2
    go_ret
    exact ⟨_, rfl, HFIN.out _ HO.out.drew, below_setCells hB _ _ _ hb2.drew⟩
end Go.Proofs.YtkiecjacbfmblaaDoor
