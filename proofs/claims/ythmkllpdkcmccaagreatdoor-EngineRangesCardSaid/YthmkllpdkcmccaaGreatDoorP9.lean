/-
  Packed texts: DiscA, DiscB, RgA, FenceM, FenceS, FenceA, FenceB, Fence, Hdr, Hdr2, Cod0.
-/
import Derived.BigQuiet
import Derived.Deep.QuietTactic
import Derived.Deep.RegionLaw
import Derived.Handy
import Derived.Test.YthmkllpdkcmccaaGreatDoorP8
namespace Go.Proofs.YthmkllpdkcmccaaGreatDoor
open Go.RowKit Go.Maps
set_option maxRecDepth 100000
set_option linter.unusedVariables false
set_option linter.unusedSimpArgs false

theorem cirSide_d (a b c d : Pt) (w : World) (hw : Wts w) (ha : S a.x ∧ S a.y) (hb : S b.x ∧ S b.y) (hc : S c.x ∧ S c.y) (hd : S d.x ∧ S d.y) (r : Int) (hr : sideC a b c d = r) :
    Calls Tryz.prog 159 #[.agg #[.int .i64 a.x, .int .i64 a.y], .agg #[.int .i64 b.x, .int .i64 b.y], .agg #[.int .i64 c.x, .int .i64 c.y], .agg #[.int .i64 d.x, .int .i64 d.y]] w fun e w' => e = .returned (.int .i64 r) ∧ Below w.heap.size w w' := by
  subst hr
  refine (gCircleSide (RInv.start0 (Ctx.ok_none (Below.refl w.heap.size w))) hw ha.1 ha.2 hb.1 hb.2 hc.1 hc.2 hd.1 hd.2).mono ?_
  rintro e w' ⟨v, rfl, ⟨s, rfl, hs⟩, hb⟩
  exact ⟨by rw [hs]; rfl, hb⟩
/-- The world of a call: the tables that the statement lists, and what the table of wanted orientations says of collinear points. -/
structure WtsC (c : Int) (w : World) : Prop where
  wts : Wts w
  cell : w.cell? ⟨2, 1, none⟩ = some (.int .i64 c)
  s : S c
theorem WtsC.below {c : Int} {w w' : World} (h : WtsC c w) (hb : Below w.heap.size w w') : WtsC c w' := ⟨h.wts.below hb, (hb.cell (p := ⟨2, 1, none⟩) (lt_of_cell h.cell)).trans h.cell, h.s⟩
theorem wrap_sgn_eq {x : Int} (hx : x = -1 ∨ x = 0 ∨ x = 1) {c : Int} (hc : S c) : decide (IntKind.u64.wrap x = IntKind.u64.wrap c) = decide (x = c) := by
  rw [wrap_u, wrap_u]
  unfold S at hc
  refine decide_eq_decide.2 ⟨fun h => ?_, fun h => by rw [h]⟩
  rcases hx with rfl | rfl | rfl <;> omega
theorem orCol_d (q : Int) (a b c : Pt) (w : World) (hw : WtsC q w) (ha : S a.x ∧ S a.y) (hb : S b.x ∧ S b.y) (hc : S c.x ∧ S c.y) (m : Int) (hm : mk (decide (sgnP a b c = q)) = m) :
    Calls Tryz.prog 160 #[.agg #[.int .i64 a.x, .int .i64 a.y], .agg #[.int .i64 b.x, .int .i64 b.y], .agg #[.int .i64 c.x, .int .i64 c.y]] w fun e w' => e = .returned (.int .u64 m) ∧ Below w.heap.size w w' := by
  subst hm
  refine (gOrientColAt (RInv.start0 (Ctx.ok_none (Below.refl w.heap.size w))) hw.wts hw.cell ha.1 ha.2 hb.1 hb.2 hc.1 hc.2).mono ?_
  rintro e w' ⟨v, rfl, hv, hb⟩
  exact ⟨by rw [hv, ← sgn_det, wrap_sgn_eq (sgn_in a b c) hw.s], hb⟩
theorem copy3 {t : TypeId} (W : World) (A : Option Addr) (c : Nat) (l : List Pt) (T : Nat → Prop) (ha : RowR W T 2 ptC A l) (h3 : l.length = 3) :
    ∃ W2, (∀ ty, (Builtin.copy_ #[22, 22] ty #[.slice (some ⟨W.heap.size, 0, none⟩) 3 3, .slice A 3 c]).run Tryz.prog (W.alloc (.cells #[.int .i64 0, .int .i64 0, .int .i64 0, .int .i64 0, .int .i64 0, .int .i64 0] t)) = .ok (goInt (3 : Nat)) W2) ∧ Below W.heap.size W W2 ∧ W.heap.size < W2.heap.size ∧ W2.ownsRow W.heap.size t 2 (.slice (some ⟨W.heap.size, 0, none⟩) 3 3) 3 (l.flatMap ptC) := by
  obtain ⟨b, o, rfl, _, _, _⟩ := ha.pt_ (k := 0) (by omega)
  have hown : (W.alloc (.cells #[.int .i64 0, .int .i64 0, .int .i64 0, .int .i64 0, .int .i64 0, .int .i64 0] t)).ownsRow W.heap.size t 2 (.slice (some ⟨W.heap.size, 0, none⟩) 3 3) 3 [.int .i64 0, .int .i64 0, .int .i64 0, .int .i64 0, .int .i64 0, .int .i64 0] :=
    ⟨rfl, .inr ⟨W.heap.size, 3, _, rfl, Nat.le_refl _, heap_alloc_new W _, Nat.le_refl _, by decide, rfl, rfl⟩⟩
  have hbA : Below W.heap.size W (W.alloc (.cells #[.int .i64 0, .int .i64 0, .int .i64 0, .int .i64 0, .int .i64 0, .int .i64 0] t)) := (Below.refl _ _).alloc (Nat.le_refl _) _
  have hlf : (l.flatMap ptC).length = 6 := by rw [flatC_len (C := ptC) (k := 2) (fun _ => rfl), h3]
  refine ⟨_, fun ty => run_copy_k _ _ _ ty 24 2 W.heap.size 0 3 3 ⟨b, o, none⟩ 3 c (l.flatMap ptC) 3 Tryz.underlying22 sizePt rfl hlf (fun j v hj => (ha.next hbA).cells_ (fun _ => rfl) (by decide) j v hj) (fun j hj => ?_) (fun j hj => World.ownsRow.frozenAt hown _) (one_cellsP l), below_setCells (Nat.le_refl _) _ _ _ hbA, ?_, ?_⟩
  · have hj6 : 0 + j < 6 := by omega
    rw [World.ownsRow.cellAt hown _ (by omega), List.getElem?_eq_getElem (by simpa using hj6)]; rfl
  · exact (World.ownsRow.lt (own_over (l.flatMap ptC) 0 _ _ hown) _ rfl).2
  · have h := own_over (l.flatMap ptC) 0 _ _ hown
    have e : over [.int .i64 0, .int .i64 0, .int .i64 0, .int .i64 0, .int .i64 0, .int .i64 0] 0 (l.flatMap ptC) = l.flatMap ptC := by
      match l, h3 with
      | [p, q, r], _ => rfl
    rw [e] at h
    exact h
end Go.Proofs.YthmkllpdkcmccaaGreatDoor
namespace Go.Proofs.YthmkllpdkcmccaaGreatDoor
open Go.RowKit Go.Maps
set_option maxRecDepth 100000
set_option linter.unusedVariables false
set_option linter.unusedSimpArgs false

/-- Six cells of a block are written. -/
def six (w : World) (b : Nat) (v0 v1 v2 v3 v4 v5 : Value) : World := (((((w.setCell ⟨b, 0, none⟩ v0).setCell ⟨b, 1, none⟩ v1).setCell ⟨b, 2, none⟩ v2).setCell ⟨b, 3, none⟩ v3).setCell ⟨b, 4, none⟩ v4).setCell ⟨b, 5, none⟩ v5
theorem set_at {w : World} {b : Nat} {cs : Array Value} {t : TypeId} (h : w.heap[b]? = some (.cells cs t (0, 0))) (k : Nat) (v : Value) : (w.setCell ⟨b, k, none⟩ v).heap[b]? = some (.cells (cs.setIfInBounds k v) t (0, 0)) := by
  show (w.heap.modify b _)[b]? = _
  rw [Array.getElem?_modify, if_pos rfl, h]
  rfl
theorem six_block {w : World} {b : Nat} {u0 u1 u2 u3 u4 u5 : Value} {t : TypeId} (h : w.heap[b]? = some (.cells #[u0, u1, u2, u3, u4, u5] t (0, 0))) (v0 v1 v2 v3 v4 v5 : Value) : (six w b v0 v1 v2 v3 v4 v5).heap[b]? = some (.cells #[v0, v1, v2, v3, v4, v5] t (0, 0)) :=
  set_at (set_at (set_at (set_at (set_at (set_at h 0 v0) 1 v1) 2 v2) 3 v3) 4 v4) 5 v5
theorem six_below {B b : Nat} {w0 w : World} (h : Below B w0 w) (hb : B ≤ b) (v0 v1 v2 v3 v4 v5 : Value) : Below B w0 (six w b v0 v1 v2 v3 v4 v5) :=
  (((((h.setCell (p := ⟨b, 0, none⟩) hb v0).setCell (p := ⟨b, 1, none⟩) hb v1).setCell (p := ⟨b, 2, none⟩) hb v2).setCell (p := ⟨b, 3, none⟩) hb v3).setCell (p := ⟨b, 4, none⟩) hb v4).setCell (p := ⟨b, 5, none⟩) hb v5
theorem six_cells {w : World} {b : Nat} {v0 v1 v2 v3 v4 v5 : Value} {t : TypeId} (h : w.heap[b]? = some (.cells #[v0, v1, v2, v3, v4, v5] t (0, 0))) :
    w.cell? ⟨b, 0, none⟩ = some v0 ∧ w.cell? ⟨b, 1, none⟩ = some v1 ∧ w.cell? ⟨b, 2, none⟩ = some v2 ∧ w.cell? ⟨b, 3, none⟩ = some v3 ∧ w.cell? ⟨b, 4, none⟩ = some v4 ∧ w.cell? ⟨b, 5, none⟩ = some v5 := by
  refine ⟨?_, ?_, ?_, ?_, ?_, ?_⟩ <;> simp [World.cell?, h]
theorem block_frozen {w : World} {b : Nat} {cs : Array Value} {t : TypeId} (h : w.heap[b]? = some (.cells cs t (0, 0))) (o : Nat) : w.frozen? ⟨b, o, none⟩ = false := by simp [World.frozen?, h]
set_option maxHeartbeats 1000000 in
theorem boundary_yes (w : World) (A : Option Addr) (c : Nat) (X0 X1 X2 : Pt) (Q : Nat → Prop) (ha : RowR w Q 2 ptC A [X0, X1, X2]) :
    Calls Tryz.prog 158 #[.slice A 3 c] w fun e w' => e = .returned (.tuple #[.agg #[.int .i64 X0.x, .int .i64 X0.y, .int .i64 X1.x, .int .i64 X1.y, .int .i64 X2.x, .int .i64 X2.y], .bool true]) ∧ Below w.heap.size w w' := by
  obtain ⟨W, hW⟩ : ∃ W, W = w.alloc (.cells #[.int .i64 0, .int .i64 0, .int .i64 0, .int .i64 0, .int .i64 0, .int .i64 0] 201) := ⟨_, rfl⟩
  have h0 : Below w.heap.size w W := by rw [hW]; exact (Below.refl _ _).alloc (Nat.le_refl _) _
  obtain ⟨W2, hcp, hb2, hlt2, hown2⟩ := copy3 (t := 201) W A c [X0, X1, X2] Q (ha.next h0) rfl
  obtain ⟨bx, hbx⟩ : ∃ bx, bx = w.heap.size := ⟨_, rfl⟩
  have hsz : W.heap.size = w.heap.size + 1 := by rw [hW]; simp
  have y0 : W2.cell? ⟨W.heap.size, 0, none⟩ = some (.int .i64 X0.x) := World.ownsRow.cellAt hown2 0 (by decide)
  have y1 : W2.cell? ⟨W.heap.size, 1, none⟩ = some (.int .i64 X0.y) := World.ownsRow.cellAt hown2 1 (by decide)
  have y2 : W2.cell? ⟨W.heap.size, 2, none⟩ = some (.int .i64 X1.x) := World.ownsRow.cellAt hown2 2 (by decide)
  have y3 : W2.cell? ⟨W.heap.size, 3, none⟩ = some (.int .i64 X1.y) := World.ownsRow.cellAt hown2 3 (by decide)
  have y4 : W2.cell? ⟨W.heap.size, 4, none⟩ = some (.int .i64 X2.x) := World.ownsRow.cellAt hown2 4 (by decide)
  have y5 : W2.cell? ⟨W.heap.size, 5, none⟩ = some (.int .i64 X2.y) := World.ownsRow.cellAt hown2 5 (by decide)
  have hb : bx < W.heap.size := by omega
  have hk0 : W.heap[bx]? = some (.cells #[.int .i64 0, .int .i64 0, .int .i64 0, .int .i64 0, .int .i64 0, .int .i64 0] 201 (0, 0)) := by rw [hW, hbx]; exact heap_alloc_new w _
  have hk : W2.heap[bx]? = some (.cells #[.int .i64 0, .int .i64 0, .int .i64 0, .int .i64 0, .int .i64 0, .int .i64 0] 201 (0, 0)) := (hb2.block _ hb).trans hk0
  obtain ⟨z0, z1, z2, z3, z4, z5⟩ := six_cells hk
  have f0 := block_frozen hk
  have h2 := h0.trans (hb2.mono h0.size)
  have h3 := six_below h2 (show w.heap.size ≤ bx by omega) (.int .i64 X0.x) (.int .i64 X0.y) (.int .i64 X1.x) (.int .i64 X1.y) (.int .i64 X2.x) (.int .i64 X2.y)
  obtain ⟨W3, hW3⟩ : ∃ W3, W3 = six W2 bx (.int .i64 X0.x) (.int .i64 X0.y) (.int .i64 X1.x) (.int .i64 X1.y) (.int .i64 X2.x) (.int .i64 X2.y) := ⟨_, rfl⟩
  obtain ⟨e0, e1, e2, e3, e4, e5⟩ := six_cells (six_block hk (.int .i64 X0.x) (.int .i64 X0.y) (.int .i64 X1.x) (.int .i64 X1.y) (.int .i64 X2.x) (.int .i64 X2.y))
  rw [← hW3] at e0 e1 e2 e3 e4 e5 h3
  have HW := Lib.hid hW
  have HW3 := Lib.hid hW3
  have HB := Lib.hid hbx
  have HN : Hid (bx ≠ W.heap.size) := Lib.hid (by omega)
  have hne := HN.out
  have hne' : W.heap.size ≠ bx := fun h => HN.out h.symm
  clear ha hown2 hsz hW hbx hW3
  go_enter Tryz.func158, Tryz.ntmps158
  go_upto_region 1 with (fail)
  rw [← HW.out, ← HB.out]
  go_wp2_with (first | (refine wpList_copy_runI _ rfl _ _ 22 22 rfl _ _ rfl rfl (hcp _) ?_))
  change bodyPost _ _ _ _ _ (six W2 bx (.int .i64 X0.x) (.int .i64 X0.y) (.int .i64 X1.x) (.int .i64 X1.y) (.int .i64 X2.x) (.int .i64 X2.y))
  rw [← HW3.out]
  exact bodyPost_ret (v := .tuple #[.agg #[.int .i64 X0.x, .int .i64 X0.y, .int .i64 X1.x, .int .i64 X1.y, .int .i64 X2.x, .int .i64 X2.y], .bool true]) (by simp [results, Tryz.results158, go_sem, e0, e1, e2, e3, e4, e5]) rfl ⟨rfl, h3⟩
set_option maxHeartbeats 1000000 in
theorem boundary_no (w : World) (A : Option Addr) (n c : Nat) (hn : ¬ n = 3) :
    Calls Tryz.prog 158 #[.slice A n c] w fun e w' => e = .returned (.tuple #[.agg #[.int .i64 0, .int .i64 0, .int .i64 0, .int .i64 0, .int .i64 0, .int .i64 0], .bool false]) ∧ Below w.heap.size w w' := by
  obtain ⟨W, hW⟩ : ∃ W, W = (w.alloc (.cells #[.int .i64 0, .int .i64 0, .int .i64 0, .int .i64 0, .int .i64 0, .int .i64 0] 201)).alloc (.cells #[.int .i64 0, .int .i64 0, .int .i64 0, .int .i64 0, .int .i64 0, .int .i64 0] 201) := ⟨_, rfl⟩
  have h0 : Below w.heap.size w W := by rw [hW]; exact ((Below.refl _ _).alloc (Nat.le_refl _) _).alloc (by simp) _
  obtain ⟨bx, hbx⟩ : ∃ bx, bx = w.heap.size := ⟨_, rfl⟩
  have hk : W.heap[bx]? = some (.cells #[.int .i64 0, .int .i64 0, .int .i64 0, .int .i64 0, .int .i64 0, .int .i64 0] 201 (0, 0)) := by rw [hW, hbx]; exact ((Below.refl _ (w.alloc (.cells #[.int .i64 0, .int .i64 0, .int .i64 0, .int .i64 0, .int .i64 0, .int .i64 0] 201))).alloc (Nat.le_refl _) _ : Below _ _ _).block _ (by simp) |>.trans (heap_alloc_new w _)
  have hk1 : W.heap[bx + 1]? = some (.cells #[.int .i64 0, .int .i64 0, .int .i64 0, .int .i64 0, .int .i64 0, .int .i64 0] 201 (0, 0)) := by rw [hW, hbx]; have := heap_alloc_new (w.alloc (.cells #[.int .i64 0, .int .i64 0, .int .i64 0, .int .i64 0, .int .i64 0, .int .i64 0] 201)) (.cells #[.int .i64 0, .int .i64 0, .int .i64 0, .int .i64 0, .int .i64 0, .int .i64 0] 201); simpa using this
  obtain ⟨y0, y1, y2, y3, y4, y5⟩ := six_cells hk1
  obtain ⟨z0, z1, z2, z3, z4, z5⟩ := six_cells hk
  have f0 := block_frozen hk
  have h3 := six_below h0 (show w.heap.size ≤ bx by omega) (.int .i64 0) (.int .i64 0) (.int .i64 0) (.int .i64 0) (.int .i64 0) (.int .i64 0)
  obtain ⟨W3, hW3⟩ : ∃ W3, W3 = six W bx (.int .i64 0) (.int .i64 0) (.int .i64 0) (.int .i64 0) (.int .i64 0) (.int .i64 0) := ⟨_, rfl⟩
  obtain ⟨e0, e1, e2, e3, e4, e5⟩ := six_cells (six_block hk (.int .i64 0) (.int .i64 0) (.int .i64 0) (.int .i64 0) (.int .i64 0) (.int .i64 0))
  rw [← hW3] at e0 e1 e2 e3 e4 e5 h3
  have HW := Lib.hid hW
  have HW3 := Lib.hid hW3
  have HB := Lib.hid hbx
  have hd : ((n : Int) != 3) = true := by rw [bne_iff_ne]; omega
  clear hW hbx hW3
  go_enter Tryz.func158, Tryz.ntmps158
  go_upto_region 2 with (fail)
  rw [← HW.out, ← HB.out]
  go_wp2
  change bodyPost _ _ _ _ _ (six W bx (.int .i64 0) (.int .i64 0) (.int .i64 0) (.int .i64 0) (.int .i64 0) (.int .i64 0))
  rw [← HW3.out]
  exact bodyPost_ret (v := .tuple #[.agg #[.int .i64 0, .int .i64 0, .int .i64 0, .int .i64 0, .int .i64 0, .int .i64 0], .bool false]) (by simp [results, Tryz.results158, go_sem, e0, e1, e2, e3, e4, e5]) rfl ⟨rfl, h3⟩
set_option maxHeartbeats 1000000 in
theorem discValid_c (q : Int) (tv : Value) (evs : List Ev) (T Q : Nat → Prop) (A : Option Addr) (n c : Nat) (l : List Pt) (r : Bool) (w : World) (hw : ∀ W, Moved T w W → WtsC q W) (ht : TapeO w T tv evs) (he : evs.length ≤ 990000) (ha : RowR w Q 2 ptC A l) (hQT : ∀ b, Q b → ¬ T b) (hn : n = l.length) (hS : SsP l) (hr : validDw q l = r) :
    Calls Tryz.prog 157 #[tv, .slice A n c] w fun e w' => e = .returned (.int .u64 (mk r)) ∧ TapeO w' (fun g => T g ∨ w.heap.size ≤ g) tv (addT tv evs (validDE n)) ∧ Moved T w w' := by
  obtain ⟨W, hW⟩ : ∃ W, W = w := ⟨_, rfl⟩
  have h0 : Below w.heap.size w W := by rw [hW]; exact Below.refl _ _
  have HW := Lib.hid hW
  have HA := ha.next h0
  clear hW
  by_cases h3 : n = 3
  · subst h3
    obtain ⟨X0, X1, X2, rfl⟩ : ∃ X0 X1 X2, l = [X0, X1, X2] := by
      match l, hn.symm with
      | [a, b, d], _ => exact ⟨a, b, d, rfl⟩
    have HPs := Lib.hid (hS X0 (by simp))
    have HQs := Lib.hid (hS X1 (by simp))
    have HXs := Lib.hid (hS X2 (by simp))
    have HR0 := Lib.hid (show (!decide (sgnP X0 X1 X2 = q)) = r by rw [← hr]; show _ = (true && (sgnP X0 X1 X2 != q)); rw [Bool.true_and]; by_cases h : sgnP X0 X1 X2 = q <;> simp [h])
    have HT := Lib.hid ht
    clear ht hS hr hn ha
    go_enter Tryz.func157, Tryz.ntmps157
    go_upto_region 1 with (fail)
    rw [← HW.out]
    go_wp2_with (fail)
    refine (boundary_yes W A c X0 X1 X2 Q HA).mono ?_
    rintro e w1 ⟨rfl, h1⟩
    obtain ⟨W2, hW2⟩ : ∃ W2, W2 = w1.alloc (.cells #[.int .i64 X0.x, .int .i64 X0.y, .int .i64 X1.x, .int .i64 X1.y, .int .i64 X2.x, .int .i64 X2.y] 201) := ⟨_, rfl⟩
    have hk1 := heap_alloc_new w1 (.cells #[.int .i64 0, .int .i64 0, .int .i64 0, .int .i64 0, .int .i64 0, .int .i64 0] 201)
    obtain ⟨z0, z1, z2, z3, z4, z5⟩ := six_cells hk1
    have f0 := block_frozen hk1
    have h2 : Below w.heap.size w W2 := by
      rw [hW2]
      exact (h0.trans (h1.mono h0.size)).alloc (Nat.le_trans h0.size h1.size) _
    have hbk2 : W2.heap[w1.heap.size]? = some (.cells #[.int .i64 X0.x, .int .i64 X0.y, .int .i64 X1.x, .int .i64 X1.y, .int .i64 X2.x, .int .i64 X2.y] 201 (0, 0)) := by rw [hW2]; exact heap_alloc_new w1 _
    have hw12 : Below w1.heap.size w1 W2 := by rw [hW2]; exact (Below.refl _ _).alloc (Nat.le_refl _) _
    have hl2 : w1.heap.size < W2.heap.size := (Array.getElem?_eq_some_iff.1 hbk2).1
    have HT2 := Lib.hid (tape_mix HT.out h2)
    have HW2 := Lib.hid hW2
    clear hW2
    go_wp2_with (fail)
    rw [← HW2.out]
    refine (noteO_any tv evs _ 4 0 2 W2 HT2.out (by omega) (by decide) (fun g hg => .inr hg)).mono ?_
    rintro e w3 ⟨rfl, ht3, hm3⟩
    have hm := moved_mix h2 hm3
    have hwt := hw w3 hm
    have hkeep : ∀ (k : Nat) (b : Nat), w.heap.size ≤ b → b < W2.heap.size → w3.cell? ⟨b, k, none⟩ = W2.cell? ⟨b, k, none⟩ := fun k b h1 h4 => hm3.cell (p := ⟨b, k, none⟩) h4 (fun h => h.elim (fun h => by have h5 : b < w.heap.size := h.2; omega) (fun h => by have h5 : W2.heap.size ≤ b := h; omega))
    obtain ⟨q0, q1, q2, q3, q4, q5⟩ := six_cells hbk2
    have hws1 : w.heap.size ≤ w1.heap.size := Nat.le_trans h0.size h1.size
    have y0 := (hkeep 0 w1.heap.size hws1 hl2).trans q0
    have y1 := (hkeep (0 + 1) w1.heap.size hws1 hl2).trans q1
    have y2 := (hkeep 2 w1.heap.size hws1 hl2).trans q2
    have y3 := (hkeep (2 + 1) w1.heap.size hws1 hl2).trans q3
    have y4 := (hkeep (2 * 2) w1.heap.size hws1 hl2).trans q4
    have y5 := (hkeep (2 * 2 + 1) w1.heap.size hws1 hl2).trans q5
    clear z0 z1 z2 z3 z4 z5 f0 hk1 q0 q1 q2 q3 q4 q5 hkeep hbk2
    go_wp2_with (fail)
    obtain ⟨m, hm0⟩ : ∃ m, mk (decide (sgnP X0 X1 X2 = q)) = m := ⟨_, rfl⟩
    refine (orCol_d q X0 X1 X2 w3 hwt HPs.out HQs.out HXs.out m hm0).mono ?_
    rintro e w9 ⟨rfl, h9⟩
    have HX := Lib.hid (show bits .xor .u64 18446744073709551615 m = mk r by rw [← hm0, xor_mk, HR0.out])
    clear hm0
    have hT9 : TapeO w9 (fun g => T g ∨ w.heap.size ≤ g) tv (addT tv evs [⟨4, 0, 2⟩]) := (ht3.next h9).imp fun g hg => by rcases hg with hg | hg; exact .inl hg.1; exact .inr (by have := h2.size; omega)
    have hm9 : Moved T w w9 := hm.trans (.of_below h9)
    go_wp2
    go_ret
    exact ⟨by rw [← HX.out]; rfl, hT9, hm9⟩
  · have HR := Lib.hid (show r = false by rw [← hr]; exact validDw_no (by omega))
    have hE := Lib.hid (show validDE n = [] by unfold validDE; rw [if_neg h3])
    have HT := Lib.hid ht
    rw [hE.out]
    have H3 := Lib.hid h3
    clear hr hn ha hS h3 ht
    go_enter Tryz.func157, Tryz.ntmps157
    go_upto_region 1 with (fail)
    rw [← HW.out]
    go_wp2_with (fail)
    refine (boundary_no W A n c H3.out).mono ?_
    rintro e w1 ⟨rfl, h1⟩
    obtain ⟨W2, hW2⟩ : ∃ W2, W2 = w1.alloc (.cells #[.int .i64 0, .int .i64 0, .int .i64 0, .int .i64 0, .int .i64 0, .int .i64 0] 201) := ⟨_, rfl⟩
    have hk1 := heap_alloc_new w1 (.cells #[.int .i64 0, .int .i64 0, .int .i64 0, .int .i64 0, .int .i64 0, .int .i64 0] 201)
    obtain ⟨z0, z1, z2, z3, z4, z5⟩ := six_cells hk1
    have f0 := block_frozen hk1
    have h2 : Below w.heap.size w W2 := by
      rw [hW2]
      exact (h0.trans (h1.mono h0.size)).alloc (Nat.le_trans h0.size h1.size) _
    have HW2 := Lib.hid hW2
    clear hW2
    go_wp2
    rw [← HW2.out]
    go_ret
    exact ⟨by rw [HR.out]; rfl, by rw [addT_nil HT.out]; exact (HT.out.next h2).imp fun g hg => .inl hg, .of_below h2⟩
set_option maxHeartbeats 1000000 in
theorem discLocate_c (tv : Value) (evs : List Ev) (T Q : Nat → Prop) (A : Option Addr) (n c : Nat) (l : List Pt) (p : Pt) (r : Int) (w : World) (hw : ∀ W, Moved T w W → Wts W) (ht : TapeO w T tv evs) (he : evs.length ≤ 990000) (ha : RowR w Q 2 ptC A l) (hQT : ∀ b, Q b → ¬ T b) (hn : n = l.length) (hS : SsP l) (hp : S p.x ∧ S p.y) (hr : locD l p = r) :
    Calls Tryz.prog 156 #[tv, .slice A n c, .agg #[.int .i64 p.x, .int .i64 p.y]] w fun e w' => e = .returned (.int .i64 r) ∧ TapeO w' (fun g => T g ∨ w.heap.size ≤ g) tv (addT tv evs (locDE n)) ∧ Moved T w w' := by
  obtain ⟨W, hW⟩ : ∃ W, W = w.alloc (.cells #[.int .i64 p.x, .int .i64 p.y] 24) := ⟨_, rfl⟩
  obtain ⟨bp, hbp⟩ : ∃ bp, bp = w.heap.size := ⟨_, rfl⟩
  have h0 : Below w.heap.size w W := by rw [hW]; exact (Below.refl _ _).alloc (Nat.le_refl _) _
  have kp0 : W.cell? ⟨bp, 0, none⟩ = some (.int .i64 p.x) := by rw [hW, hbp]; simp [go_sem]
  have kp1 : W.cell? ⟨bp, 1, none⟩ = some (.int .i64 p.y) := by rw [hW, hbp]; simp [go_sem]
  have hbW : bp < W.heap.size := lt_of_cell kp0
  have hbs : w.heap.size ≤ bp := by omega
  have HW := Lib.hid hW
  have HB := Lib.hid hbp
  have HP := Lib.hid hp
  have HA := ha.next h0
  clear hW hbp hp
  by_cases h3 : n = 3
  · subst h3
    obtain ⟨X0, X1, X2, rfl⟩ : ∃ X0 X1 X2, l = [X0, X1, X2] := by
      match l, hn.symm with
      | [a, b, d], _ => exact ⟨a, b, d, rfl⟩
    have HPs := Lib.hid (hS X0 (by simp))
    have HQs := Lib.hid (hS X1 (by simp))
    have HXs := Lib.hid (hS X2 (by simp))
    have HR0 := Lib.hid (show sideC X0 X1 X2 p = r from hr)
    have HT := Lib.hid ht
    clear ht hS hr hn ha
    go_enter Tryz.func156, Tryz.ntmps156
    go_upto_region 1 with (fail)
    rw [← HW.out, ← HB.out]
    go_wp2_with (fail)
    refine (boundary_yes W A c X0 X1 X2 Q HA).mono ?_
    rintro e w1 ⟨rfl, h1⟩
    obtain ⟨W2, hW2⟩ : ∃ W2, W2 = w1.alloc (.cells #[.int .i64 X0.x, .int .i64 X0.y, .int .i64 X1.x, .int .i64 X1.y, .int .i64 X2.x, .int .i64 X2.y] 201) := ⟨_, rfl⟩
    have hk1 := heap_alloc_new w1 (.cells #[.int .i64 0, .int .i64 0, .int .i64 0, .int .i64 0, .int .i64 0, .int .i64 0] 201)
    obtain ⟨z0, z1, z2, z3, z4, z5⟩ := six_cells hk1
    have f0 := block_frozen hk1
    have h2 : Below w.heap.size w W2 := by
      rw [hW2]
      exact (h0.trans (h1.mono h0.size)).alloc (Nat.le_trans h0.size h1.size) _
    have hbk2 : W2.heap[w1.heap.size]? = some (.cells #[.int .i64 X0.x, .int .i64 X0.y, .int .i64 X1.x, .int .i64 X1.y, .int .i64 X2.x, .int .i64 X2.y] 201 (0, 0)) := by rw [hW2]; exact heap_alloc_new w1 _
    have hw12 : Below w1.heap.size w1 W2 := by rw [hW2]; exact (Below.refl _ _).alloc (Nat.le_refl _) _
    have hl2 : w1.heap.size < W2.heap.size := (Array.getElem?_eq_some_iff.1 hbk2).1
    have HT2 := Lib.hid (tape_mix HT.out h2)
    have HW2 := Lib.hid hW2
    clear hW2
    go_wp2_with (fail)
    rw [← HW2.out]
    refine (noteO_any tv evs _ 6 0 0 W2 HT2.out (by omega) (by decide) (fun g hg => .inr hg)).mono ?_
    rintro e w3 ⟨rfl, ht3, hm3⟩
    have hm := moved_mix h2 hm3
    have hwt := hw w3 hm
    have hkeep : ∀ (k : Nat) (b : Nat), w.heap.size ≤ b → b < W2.heap.size → w3.cell? ⟨b, k, none⟩ = W2.cell? ⟨b, k, none⟩ := fun k b h1 h4 => hm3.cell (p := ⟨b, k, none⟩) h4 (fun h => h.elim (fun h => by have h5 : b < w.heap.size := h.2; omega) (fun h => by have h5 : W2.heap.size ≤ b := h; omega))
    obtain ⟨q0, q1, q2, q3, q4, q5⟩ := six_cells hbk2
    have hws1 : w.heap.size ≤ w1.heap.size := Nat.le_trans h0.size h1.size
    have y0 := (hkeep 0 w1.heap.size hws1 hl2).trans q0
    have y1 := (hkeep (0 + 1) w1.heap.size hws1 hl2).trans q1
    have y2 := (hkeep 2 w1.heap.size hws1 hl2).trans q2
    have y3 := (hkeep (2 + 1) w1.heap.size hws1 hl2).trans q3
    have y4 := (hkeep (2 * 2) w1.heap.size hws1 hl2).trans q4
    have y5 := (hkeep (2 * 2 + 1) w1.heap.size hws1 hl2).trans q5
    have hb1 : bp < w1.heap.size := Nat.lt_of_lt_of_le hbW h1.size
    have x0 := (hkeep 0 bp hbs (by omega)).trans ((hw12.cell (p := ⟨bp, 0, none⟩) hb1).trans ((h1.cell (p := ⟨bp, 0, none⟩) hbW).trans kp0))
    have x1 := (hkeep 1 bp hbs (by omega)).trans ((hw12.cell (p := ⟨bp, 1, none⟩) hb1).trans ((h1.cell (p := ⟨bp, 1, none⟩) hbW).trans kp1))
    clear z0 z1 z2 z3 z4 z5 f0 hk1 q0 q1 q2 q3 q4 q5 hkeep hbk2
    go_wp2_with (fail)
    refine (cirSide_d X0 X1 X2 p w3 hwt HPs.out HQs.out HXs.out HP.out r HR0.out).mono ?_
    rintro e w9 ⟨rfl, h9⟩
    have hT9 : TapeO w9 (fun g => T g ∨ w.heap.size ≤ g) tv (addT tv evs [⟨6, 0, 0⟩]) := (ht3.next h9).imp fun g hg => by rcases hg with hg | hg; exact .inl hg.1; exact .inr (by have := h2.size; omega)
    have hm9 : Moved T w w9 := hm.trans (.of_below h9)
    go_wp2
    go_ret
    exact ⟨rfl, hT9, hm9⟩
  · have HR := Lib.hid (show r = -1 by rw [← hr]; exact locD_no (by omega) p)
    have hE := Lib.hid (show locDE n = [] by unfold locDE; rw [if_neg h3])
    have HT := Lib.hid ht
    rw [hE.out]
    have H3 := Lib.hid h3
    clear hr hn ha hS h3 ht
    go_enter Tryz.func156, Tryz.ntmps156
    go_upto_region 1 with (fail)
    rw [← HW.out, ← HB.out]
    go_wp2_with (fail)
    refine (boundary_no W A n c H3.out).mono ?_
    rintro e w1 ⟨rfl, h1⟩
    obtain ⟨W2, hW2⟩ : ∃ W2, W2 = w1.alloc (.cells #[.int .i64 0, .int .i64 0, .int .i64 0, .int .i64 0, .int .i64 0, .int .i64 0] 201) := ⟨_, rfl⟩
    have hk1 := heap_alloc_new w1 (.cells #[.int .i64 0, .int .i64 0, .int .i64 0, .int .i64 0, .int .i64 0, .int .i64 0] 201)
    obtain ⟨z0, z1, z2, z3, z4, z5⟩ := six_cells hk1
    have f0 := block_frozen hk1
    have h2 : Below w.heap.size w W2 := by
      rw [hW2]
      exact (h0.trans (h1.mono h0.size)).alloc (Nat.le_trans h0.size h1.size) _
    have HW2 := Lib.hid hW2
    clear hW2
    go_wp2
    rw [← HW2.out]
    go_ret
    exact ⟨by rw [HR.out]; rfl, by rw [addT_nil HT.out]; exact (HT.out.next h2).imp fun g hg => .inl hg, .of_below h2⟩
end Go.Proofs.YthmkllpdkcmccaaGreatDoor
namespace Go.Proofs.YthmkllpdkcmccaaGreatDoor
open Go.RowKit Go.Maps
set_option maxRecDepth 100000
set_option linter.unusedVariables false
set_option linter.unusedSimpArgs false

/-- A region: whether it denies, its vertices' number as said, and its points, with the place where they lie. -/
structure Rg where
  d : Bool
  v : Int
  A : Option Addr
  c : Nat
  l : List Pt
def rgC (r : Rg) : List Value := [.bool r.d, .int .i64 r.v, .slice r.A r.l.length r.c]
theorem rgC_len (r : Rg) : (rgC r).length = 3 := rfl
/-- The points of a region, in memory. -/
structure RegOk (w : World) (T : Nat → Prop) (r : Rg) : Prop where
  row : RowR w T 2 ptC r.A r.l
  ss : SsP r.l
  nil : r.A = none → r.c = 0
  wf : S r.v
def RegsOk (w : World) (T : Nat → Prop) (rs : List Rg) : Prop := ∀ r ∈ rs, RegOk w T r
theorem RegOk.next {w w' : World} {T : Nat → Prop} {r : Rg} (h : RegOk w T r) (hb : Below w.heap.size w w') : RegOk w' T r := ⟨h.row.next hb, h.ss, h.nil, h.wf⟩
theorem RegOk.low {w : World} {r : Rg} (h : RegOk w (fun _ => True) r) : RegOk w (fun b => b < w.heap.size) r := ⟨(h.row.now (fun _ => by simp [ptC])).imp fun _ h => h.2, h.ss, h.nil, h.wf⟩
theorem RegsOk.next {w w' : World} {T : Nat → Prop} {rs : List Rg} (h : RegsOk w T rs) (hb : Below w.heap.size w w') : RegsOk w' T rs := fun r hr => (h r hr).next hb
theorem RegsOk.low {w : World} {rs : List Rg} (h : RegsOk w (fun _ => True) rs) : RegsOk w (fun b => b < w.heap.size) rs := fun r hr => (h r hr).low
theorem RegOk.imp {w : World} {T U : Nat → Prop} {r : Rg} (h : RegOk w T r) (hTU : ∀ b, T b → U b) : RegOk w U r := ⟨h.row.imp hTU, h.ss, h.nil, h.wf⟩
theorem RegsOk.imp {w : World} {T U : Nat → Prop} {rs : List Rg} (h : RegsOk w T rs) (hTU : ∀ b, T b → U b) : RegsOk w U rs := fun r hr => (h r hr).imp hTU
/-- What Check says. -/
def sizeF (v : Int) : Int := if v = 0 then 3 else if 3 ≤ v ∧ v ≤ 64 then v else 0
theorem sizeF_bd (v : Int) : sizeF v = 0 ∨ 3 ≤ sizeF v ∧ sizeF v ≤ 64 := by unfold sizeF; split <;> (try split) <;> omega
theorem RowR.rg2 {w : World} {T : Nat → Prop} {A : Option Addr} {rs : List Rg} (h : RowR w T 3 rgC A rs) {k : Nat} (hk : k < rs.length) :
    ∃ b o, A = some ⟨b, o, none⟩ ∧ T b ∧ w.cell? ⟨b, o + k * 3, none⟩ = some (.bool (rs[k]'hk).d) ∧ w.cell? ⟨b, o + k * 3 + 1, none⟩ = some (.int .i64 (rs[k]'hk).v) ∧ w.cell? ⟨b, o + k * 3 + 2, none⟩ = some (.slice (rs[k]'hk).A (rs[k]'hk).l.length (rs[k]'hk).c) := by
  obtain ⟨b, o, e, hS, hc⟩ := h.at_ hk
  exact ⟨b, o, e, hS, hc 0 _ rfl, hc 1 _ rfl, hc 2 _ rfl⟩
theorem ref16Size_any (v r : Int) (w : World) (hr : sizeF v = r) :
    Calls Tryz.prog 66 #[.int .i64 v] w fun e w' => e = .returned (.int .i64 r) ∧ w' = w := by
  by_cases h0 : v = 0
  · have HR := Lib.hid (show r = 3 by rw [← hr]; unfold sizeF; rw [if_pos h0])
    clear hr
    subst h0
    go_enter Tryz.func66, Tryz.ntmps66
    go_wp2
    go_ret
    exact ⟨by rw [HR.out]; rfl, rfl⟩
  · have hd : (v == 0) = false := by rw [beq_eq_false_iff_ne]; exact h0
    by_cases h3 : 3 ≤ v
    · by_cases h64 : v ≤ 64
      · have HR := Lib.hid (show r = v by rw [← hr]; unfold sizeF; rw [if_neg h0, if_pos ⟨h3, h64⟩])
        clear hr h0
        go_enter Tryz.func66, Tryz.ntmps66
        go_wp2
        go_ret
        exact ⟨by rw [HR.out]; rfl, rfl⟩
      · have HR := Lib.hid (show r = 0 by rw [← hr]; unfold sizeF; rw [if_neg h0, if_neg (by omega)])
        clear hr h0
        go_enter Tryz.func66, Tryz.ntmps66
        go_wp2
        go_ret
        exact ⟨by rw [HR.out]; rfl, rfl⟩
    · have HR := Lib.hid (show r = 0 by rw [← hr]; unfold sizeF; rw [if_neg h0, if_neg (by omega)])
      clear hr h0
      go_enter Tryz.func66, Tryz.ntmps66
      go_wp2
      go_ret
      exact ⟨by rw [HR.out]; rfl, rfl⟩
theorem infoRg : (Tryz.prog.info? 53).map (fun i => (i.zero, i.size, i.bytes)) = some (some (.agg #[.bool false, .int .i64 0, .slice none 0 0]), 3, 40) := by kernel_rfl
theorem elemRg : ElemT Tryz.prog 35 53 3 rgC := by
  obtain ⟨i0, hi, hz0, hz1, hz2⟩ := info_parts infoRg
  exact ⟨Tryz.underlying35, ⟨i0, _, hi, hz0, hz1, by rw [hz2]; decide, rfl⟩, by decide, fun _ => rfl, fun x u hu => by simp [rgC] at hu; rcases hu with rfl | rfl | rfl <;> rfl⟩
end Go.Proofs.YthmkllpdkcmccaaGreatDoor
namespace Go.Proofs.YthmkllpdkcmccaaGreatDoor
open Go.RowKit Go.Maps
set_option maxRecDepth 100000
set_option linter.unusedVariables false
set_option linter.unusedSimpArgs false

def chk : List Rg → Int
  | [] => 0
  | r :: rs => if sizeF r.v = 0 then 7 else if (r.l.length : Int) ≠ sizeF r.v then 8 else chk rs
theorem chk_cons (r : Rg) (rs : List Rg) : chk (r :: rs) = if sizeF r.v = 0 then 7 else if (r.l.length : Int) ≠ sizeF r.v then 8 else chk rs := rfl
theorem chk_append (a b : List Rg) (h : chk a = 0) : chk (a ++ b) = chk b := by
  induction a with
  | nil => rfl
  | cons r a ih =>
    rw [List.cons_append, chk_cons]
    rw [chk_cons] at h
    by_cases h1 : sizeF r.v = 0
    · rw [if_pos h1] at h; omega
    · rw [if_neg h1] at h ⊢
      by_cases h2 : (r.l.length : Int) ≠ sizeF r.v
      · rw [if_pos h2] at h; omega
      · rw [if_neg h2] at h ⊢
        exact ih h
def lenF (n : Nat) : Bool := decide (1 ≤ n) && decide (n ≤ 64)
theorem lenF_iff (n : Nat) : lenF n = true ↔ 1 ≤ n ∧ n ≤ 64 := by unfold lenF; simp
def checkF (rs : List Rg) : Int := if lenF rs.length then chk rs else 6
theorem split_at {rs : List Rg} {k : Nat} (h : k < rs.length) : rs = rs.take k ++ rs[k] :: rs.drop (k + 1) := by
  rw [← List.drop_eq_getElem_cons h, List.take_append_drop]
theorem chk_7 {rs : List Rg} {k : Nat} (h : k < rs.length) (h0 : chk (rs.take k) = 0) (h1 : sizeF (rs[k]).v = 0) : chk rs = 7 := by
  rw [split_at h, chk_append _ _ h0, chk_cons]
  rw [if_pos h1]
theorem chk_8 {rs : List Rg} {k : Nat} (h : k < rs.length) (h0 : chk (rs.take k) = 0) (h1 : sizeF (rs[k]).v ≠ 0) (h2 : ((rs[k]).l.length : Int) ≠ sizeF (rs[k]).v) : chk rs = 8 := by
  rw [split_at h, chk_append _ _ h0, chk_cons]
  rw [if_neg h1, if_pos h2]
theorem chk_step {rs : List Rg} {k : Nat} (h : k < rs.length) (h0 : chk (rs.take k) = 0) (h1 : sizeF (rs[k]).v ≠ 0) (h2 : ((rs[k]).l.length : Int) = sizeF (rs[k]).v) : chk (rs.take (k + 1)) = 0 := by
  rw [List.take_succ_eq_append_getElem h, chk_append _ _ h0, chk_cons]
  rw [if_neg h1, if_neg (by omega)]
  rfl
theorem chk_each {rs : List Rg} (h : chk rs = 0) : ∀ r ∈ rs, sizeF r.v ≠ 0 ∧ (r.l.length : Int) = sizeF r.v := by
  induction rs with
  | nil => intro r hr; cases hr
  | cons x rs ih =>
    rw [chk_cons] at h
    by_cases h1 : sizeF x.v = 0
    · rw [if_pos h1] at h; omega
    · rw [if_neg h1] at h
      by_cases h2 : (x.l.length : Int) ≠ sizeF x.v
      · rw [if_pos h2] at h; omega
      · rw [if_neg h2] at h
        intro r hr
        rcases List.mem_cons.1 hr with rfl | hr
        · exact ⟨h1, by omega⟩
        · exact ih h r hr
theorem chk_of {rs : List Rg} (h : ∀ r ∈ rs, sizeF r.v ≠ 0 ∧ (r.l.length : Int) = sizeF r.v) : chk rs = 0 := by
  induction rs with
  | nil => rfl
  | cons x rs ih =>
    rw [chk_cons, if_neg (h x (by simp)).1, if_neg (by have := (h x (by simp)).2; omega)]
    exact ih fun r hr => h r (by simp [hr])
theorem check_iff (rs : List Rg) : checkF rs = 0 ↔ lenF rs.length = true ∧ ∀ r ∈ rs, sizeF r.v ≠ 0 ∧ (r.l.length : Int) = sizeF r.v := by
  unfold checkF
  constructor
  · intro h
    by_cases h1 : lenF rs.length = true
    · rw [if_pos h1] at h; exact ⟨h1, chk_each h⟩
    · rw [if_neg h1] at h; omega
  · rintro ⟨h1, h2⟩
    rw [if_pos h1]; exact chk_of h2
/-- What a region of an accepted fence is like. -/
theorem fit_rg {r : Rg} (h : sizeF r.v ≠ 0 ∧ (r.l.length : Int) = sizeF r.v) : (r.v = 0 ∧ r.l.length = 3) ∨ (3 ≤ r.v ∧ r.v ≤ 64 ∧ (r.l.length : Int) = r.v) := by
  obtain ⟨h1, h2⟩ := h
  unfold sizeF at h1 h2
  by_cases e : r.v = 0
  · rw [if_pos e] at h2; exact .inl ⟨e, by omega⟩
  · rw [if_neg e] at h1 h2
    by_cases e2 : 3 ≤ r.v ∧ r.v ≤ 64
    · rw [if_pos e2] at h2; exact .inr ⟨e2.1, e2.2, h2⟩
    · rw [if_neg e2] at h1; exact absurd rfl h1
/-- Validity, positions, members. -/
def okFw (q : Int) (r : Rg) : Bool := if r.v = 0 then validDw q r.l else validP r.l
def locF (r : Rg) (p : Pt) : Int := if r.v = 0 then locD r.l p else locP r.l p
def inF (r : Rg) (p : Pt) : Bool := decide (0 ≤ locF r p)
def denyF (rs : List Rg) (p : Pt) : Bool := rs.any fun r => r.d && inF r p
def allowF (rs : List Rg) (p : Pt) : Bool := rs.any fun r => !r.d && inF r p
def validFw (q : Int) (rs : List Rg) : Bool := (checkF rs == 0) && rs.all (okFw q)
def memberF (rs : List Rg) (p : Pt) : Bool := (checkF rs == 0) && (!denyF rs p && allowF rs p)
theorem denyF_snoc {rs : List Rg} {k : Nat} (h : k < rs.length) (p : Pt) : denyF (rs.take (k + 1)) p = (denyF (rs.take k) p || ((rs[k]).d && inF rs[k] p)) := by
  unfold denyF; rw [List.take_succ_eq_append_getElem h, List.any_append]; simp
theorem allowF_snoc {rs : List Rg} {k : Nat} (h : k < rs.length) (p : Pt) : allowF (rs.take (k + 1)) p = (allowF (rs.take k) p || (!(rs[k]).d && inF rs[k] p)) := by
  unfold allowF; rw [List.take_succ_eq_append_getElem h, List.any_append]; simp
theorem all_snoc {q : Int} {rs : List Rg} {k : Nat} (h : k < rs.length) : (rs.take (k + 1)).all (okFw q) = ((rs.take k).all (okFw q) && okFw q rs[k]) := by
  rw [List.take_succ_eq_append_getElem h, List.all_append]; simp
/-- Events. -/
def evV (i : Nat) (r : Rg) : List Ev := ⟨7, i, 0⟩ :: if r.v = 0 then [⟨4, 0, 2⟩] else validE r.v.toNat
def evM (i : Nat) (r : Rg) : List Ev := ⟨7, i, 1⟩ :: if r.v = 0 then [⟨6, 0, 0⟩] else locateE r.v.toNat
def evsV : Nat → List Rg → List Ev
  | _, [] => []
  | i, r :: rs => evV i r ++ evsV (i + 1) rs
def evsM : Nat → List Rg → List Ev
  | _, [] => []
  | i, r :: rs => evM i r ++ evsM (i + 1) rs
theorem evsV_append : ∀ (a b : List Rg) (i : Nat), evsV i (a ++ b) = evsV i a ++ evsV (i + a.length) b
  | [], b, i => by simp [evsV]
  | r :: a, b, i => by rw [List.cons_append, evsV, evsV, evsV_append a b (i + 1), List.append_assoc, show i + 1 + a.length = i + (r :: a).length by simp; omega]
theorem evsM_append : ∀ (a b : List Rg) (i : Nat), evsM i (a ++ b) = evsM i a ++ evsM (i + a.length) b
  | [], b, i => by simp [evsM]
  | r :: a, b, i => by rw [List.cons_append, evsM, evsM, evsM_append a b (i + 1), List.append_assoc, show i + 1 + a.length = i + (r :: a).length by simp; omega]
theorem evsV_snoc {rs : List Rg} {k : Nat} (h : k < rs.length) : evsV 0 (rs.take (k + 1)) = evsV 0 (rs.take k) ++ evV k rs[k] := by
  rw [List.take_succ_eq_append_getElem h, evsV_append, Nat.zero_add, List.length_take, Nat.min_eq_left (by omega)]
  simp [evsV]
theorem evsM_snoc {rs : List Rg} {k : Nat} (h : k < rs.length) : evsM 0 (rs.take (k + 1)) = evsM 0 (rs.take k) ++ evM k rs[k] := by
  rw [List.take_succ_eq_append_getElem h, evsM_append, Nat.zero_add, List.length_take, Nat.min_eq_left (by omega)]
  simp [evsM]
theorem evV_len (i : Nat) (r : Rg) : (evV i r).length ≤ 4097 := by
  unfold evV
  rw [List.length_cons]
  split
  · simp
  · have := validE_len r.v.toNat; omega
theorem evM_len (i : Nat) (r : Rg) : (evM i r).length ≤ 4097 := by
  unfold evM
  rw [List.length_cons]
  split
  · simp
  · have := locateE_len r.v.toNat; omega
theorem evsV_len : ∀ (rs : List Rg) (i : Nat), (evsV i rs).length ≤ 4097 * rs.length
  | [], i => by simp [evsV]
  | r :: rs, i => by rw [evsV, List.length_append, List.length_cons]; have := evV_len i r; have := evsV_len rs (i + 1); omega
theorem evsM_len : ∀ (rs : List Rg) (i : Nat), (evsM i rs).length ≤ 4097 * rs.length
  | [], i => by simp [evsM]
  | r :: rs, i => by rw [evsM, List.length_append, List.length_cons]; have := evM_len i r; have := evsM_len rs (i + 1); omega
def validFE (rs : List Rg) : List Ev := if checkF rs = 0 then evsV 0 rs else []
def memberFE (rs : List Rg) : List Ev := if checkF rs = 0 then evsM 0 rs else []
theorem check_64 {rs : List Rg} (h : checkF rs = 0) : 1 ≤ rs.length ∧ rs.length ≤ 64 := by
  have := ((check_iff rs).1 h).1
  unfold lenF at this
  simpa using this
theorem validFE_len (rs : List Rg) : (validFE rs).length ≤ 262208 := by
  unfold validFE
  split
  · rename_i h
    have h1 := evsV_len rs 0
    have h2 := check_64 h
    have : 4097 * rs.length ≤ 4097 * 64 := Nat.mul_le_mul (Nat.le_refl _) h2.2
    omega
  · simp
end Go.Proofs.YthmkllpdkcmccaaGreatDoor
namespace Go.Proofs.YthmkllpdkcmccaaGreatDoor
open Go.RowKit Go.Maps
set_option maxRecDepth 100000
set_option linter.unusedVariables false
set_option linter.unusedSimpArgs false

theorem isDisc_any (d : Bool) (v : Int) (sl : Value) (r : Bool) (w : World) (hr : (v == 0) = r) :
    Calls Tryz.prog 85 #[.agg #[.bool d, .int .i64 v, sl]] w fun e w' => e = .returned (.bool r) ∧ Below w.heap.size w w' := by
  have h0 : Below w.heap.size w (w.alloc (.cells #[.bool d, .int .i64 v, sl] 53)) := (Below.refl _ _).alloc (Nat.le_refl _) _
  go_enter Tryz.func85, Tryz.ntmps85
  go_wp2
  go_ret
  exact ⟨rfl, h0⟩
theorem fenceSize_c (d : Bool) (v : Int) (sl : Value) (r : Int) (w : World) (hv : S v) (hr : sizeF v = r) :
    Calls Tryz.prog 82 #[.agg #[.bool d, .int .i64 v, sl]] w fun e w' => e = .returned (.int .i64 r) ∧ Below w.heap.size w w' := by
  obtain ⟨W, hW⟩ : ∃ W, W = w.alloc (.cells #[.bool d, .int .i64 v, sl] 53) := ⟨_, rfl⟩
  obtain ⟨B, hB⟩ : ∃ B, B = w.heap.size := ⟨_, rfl⟩
  have h0 : Below w.heap.size w W := by rw [hW]; exact (Below.refl _ _).alloc (Nat.le_refl _) _
  have k1 : W.cell? ⟨B, 1, none⟩ = some (.int .i64 v) := by rw [hW, hB]; simp [go_sem]
  have HW := Lib.hid hW
  have HB := Lib.hid hB
  clear hW hB
  by_cases e0 : v = 0
  · have HR := Lib.hid (show r = 3 by rw [← hr]; unfold sizeF; rw [if_pos e0])
    have HV := Lib.hid (show (v == 0) = true by rw [beq_iff_eq]; exact e0)
    clear hr e0
    go_enter Tryz.func82, Tryz.ntmps82
    go_wp2_with (fail)
    rw [← HW.out, ← HB.out]
    refine (isDisc_any d v sl true W HV.out).mono ?_
    rintro e w1 ⟨rfl, h1⟩
    go_wp2
    go_ret
    exact ⟨by rw [HR.out]; rfl, h0.trans (h1.mono h0.size)⟩
  · have HV := Lib.hid (show (v == 0) = false by rw [beq_eq_false_iff_ne]; exact e0)
    by_cases h3 : 3 ≤ v
    · by_cases h64 : v ≤ 64
      · have HR := Lib.hid (show r = v by rw [← hr]; unfold sizeF; rw [if_neg e0, if_pos ⟨h3, h64⟩])
        clear hr e0
        go_enter Tryz.func82, Tryz.ntmps82
        go_wp2_with (fail)
        rw [← HW.out, ← HB.out]
        refine (isDisc_any d v sl false W HV.out).mono ?_
        rintro e w1 ⟨rfl, h1⟩
        have c1 := (h1.cell (p := ⟨B, 1, none⟩) (lt_of_cell k1)).trans k1
        go_wp2
        go_ret
        exact ⟨by rw [HR.out]; rfl, h0.trans (h1.mono h0.size)⟩
      · have HR := Lib.hid (show r = 0 by rw [← hr]; unfold sizeF; rw [if_neg e0, if_neg (by omega)])
        clear hr e0
        go_enter Tryz.func82, Tryz.ntmps82
        go_wp2_with (fail)
        rw [← HW.out, ← HB.out]
        refine (isDisc_any d v sl false W HV.out).mono ?_
        rintro e w1 ⟨rfl, h1⟩
        have c1 := (h1.cell (p := ⟨B, 1, none⟩) (lt_of_cell k1)).trans k1
        go_wp2
        go_ret
        exact ⟨by rw [HR.out]; rfl, h0.trans (h1.mono h0.size)⟩
    · have HR := Lib.hid (show r = 0 by rw [← hr]; unfold sizeF; rw [if_neg e0, if_neg (by omega)])
      clear hr e0
      go_enter Tryz.func82, Tryz.ntmps82
      go_wp2_with (fail)
      rw [← HW.out, ← HB.out]
      refine (isDisc_any d v sl false W HV.out).mono ?_
      rintro e w1 ⟨rfl, h1⟩
      have c1 := (h1.cell (p := ⟨B, 1, none⟩) (lt_of_cell k1)).trans k1
      go_wp2
      go_ret
      exact ⟨by rw [HR.out]; rfl, h0.trans (h1.mono h0.size)⟩
end Go.Proofs.YthmkllpdkcmccaaGreatDoor
namespace Go.Proofs.YthmkllpdkcmccaaGreatDoor
open Go.RowKit Go.Maps
set_option maxRecDepth 100000
set_option linter.unusedVariables false
set_option linter.unusedSimpArgs false

/-- The area of a disc. -/
theorem areaDisc_any (d : Bool) (A : Option Addr) (n c : Nat) (w : World) :
    Calls Tryz.prog 68 #[.agg #[.bool d, .int .i64 0, .slice A n c]] w fun e w' => e = .returned (.iface 136 (.slice A n c)) ∧ Below w.heap.size w w' := by
  obtain ⟨W, hW⟩ : ∃ W, W = w.alloc (.cells #[.bool d, .int .i64 0, .slice A n c] 53) := ⟨_, rfl⟩
  obtain ⟨B, hB⟩ : ∃ B, B = w.heap.size := ⟨_, rfl⟩
  have h0 : Below w.heap.size w W := by rw [hW]; exact (Below.refl _ _).alloc (Nat.le_refl _) _
  have k2 : W.cell? ⟨B, 2, none⟩ = some (.slice A n c) := by rw [hW, hB]; simp [go_sem]
  have HW := Lib.hid hW
  have HB := Lib.hid hB
  clear hW hB
  go_enter Tryz.func68, Tryz.ntmps68
  go_wp2_with (fail)
  rw [← HW.out, ← HB.out]
  refine (isDisc_any d 0 (.slice A n c) true W rfl).mono ?_
  rintro e w1 ⟨rfl, h1⟩
  have c2 := (h1.cell (p := ⟨B, 2, none⟩) (lt_of_cell k2)).trans k2
  go_wp2
  go_ret
  exact ⟨rfl, h0.trans (h1.mono h0.size)⟩
/-- The area of a polygon. -/
theorem areaPoly_any (d : Bool) (v : Int) (A : Option Addr) (n c : Nat) (w : World) (hv : (v == 0) = false) :
    Calls Tryz.prog 68 #[.agg #[.bool d, .int .i64 v, .slice A n c]] w fun e w' => e = .returned (.iface 137 (.slice A n c)) ∧ Below w.heap.size w w' := by
  obtain ⟨W, hW⟩ : ∃ W, W = w.alloc (.cells #[.bool d, .int .i64 v, .slice A n c] 53) := ⟨_, rfl⟩
  obtain ⟨B, hB⟩ : ∃ B, B = w.heap.size := ⟨_, rfl⟩
  have h0 : Below w.heap.size w W := by rw [hW]; exact (Below.refl _ _).alloc (Nat.le_refl _) _
  have k2 : W.cell? ⟨B, 2, none⟩ = some (.slice A n c) := by rw [hW, hB]; simp [go_sem]
  have HW := Lib.hid hW
  have HB := Lib.hid hB
  clear hW hB
  go_enter Tryz.func68, Tryz.ntmps68
  go_wp2_with (fail)
  rw [← HW.out, ← HB.out]
  refine (isDisc_any d v (.slice A n c) false W hv).mono ?_
  rintro e w1 ⟨rfl, h1⟩
  have c2 := (h1.cell (p := ⟨B, 2, none⟩) (lt_of_cell k2)).trans k2
  go_wp2
  go_ret
  exact ⟨rfl, h0.trans (h1.mono h0.size)⟩
theorem polyAreaValid_any (tv : Value) (evs : List Ev) (T Q : Nat → Prop) (A : Option Addr) (n c : Nat) (l : List Pt) (r : Bool) (w : World) (hw : ∀ W, Moved T w W → Wts W) (ht : TapeO w T tv evs) (he : evs.length ≤ 990000) (ha : RowR w Q 2 ptC A l) (hQT : ∀ b, Q b → ¬ T b) (hn : n = l.length) (hl : n ≤ 1000000) (hS : SsP l) (hr : validP l = r) :
    Calls Tryz.prog 163 #[.slice A n c, tv] w fun e w' => e = .returned (.int .u64 (mk r)) ∧ TapeO w' (fun g => T g ∨ w.heap.size ≤ g) tv (addT tv evs (validE n)) ∧ Moved T w w' := by
  have HN := Lib.hid hn
  have HR := Lib.hid hr
  have HT := Lib.hid ht
  clear hn hr ht
  go_enter Tryz.func163, Tryz.ntmps163
  go_wp2_with (fail)
  refine (polyValid_c tv evs T Q A n c l r w hw HT.out he ha hQT HN.out hl hS HR.out).mono ?_
  rintro e w2 ⟨rfl, ht2, hm2⟩
  go_wp2
  go_ret
  exact ⟨rfl, ht2, hm2⟩
theorem discAreaValid_any (q : Int) (tv : Value) (evs : List Ev) (T Q : Nat → Prop) (A : Option Addr) (n c : Nat) (l : List Pt) (r : Bool) (w : World) (hw : ∀ W, Moved T w W → WtsC q W) (ht : TapeO w T tv evs) (he : evs.length ≤ 990000) (ha : RowR w Q 2 ptC A l) (hQT : ∀ b, Q b → ¬ T b) (hn : n = l.length) (hS : SsP l) (hr : validDw q l = r) :
    Calls Tryz.prog 155 #[.slice A n c, tv] w fun e w' => e = .returned (.int .u64 (mk r)) ∧ TapeO w' (fun g => T g ∨ w.heap.size ≤ g) tv (addT tv evs (validDE n)) ∧ Moved T w w' := by
  have HN := Lib.hid hn
  have HR := Lib.hid hr
  have HT := Lib.hid ht
  clear hn hr ht
  go_enter Tryz.func155, Tryz.ntmps155
  go_wp2_with (fail)
  refine (discValid_c q tv evs T Q A n c l r w hw HT.out he ha hQT HN.out hS HR.out).mono ?_
  rintro e w2 ⟨rfl, ht2, hm2⟩
  go_wp2
  go_ret
  exact ⟨rfl, ht2, hm2⟩
theorem polyAreaLocate_any (tv : Value) (evs : List Ev) (T Q : Nat → Prop) (A : Option Addr) (n c : Nat) (l : List Pt) (p : Pt) (r : Int) (w : World) (hw : ∀ W, Moved T w W → Wts W) (ht : TapeO w T tv evs) (he : evs.length ≤ 990000) (ha : RowR w Q 2 ptC A l) (hQT : ∀ b, Q b → ¬ T b) (hn : n = l.length) (hl : n ≤ 1000000) (hS : SsP l) (hp : S p.x ∧ S p.y) (hr : locP l p = r) :
    Calls Tryz.prog 162 #[.slice A n c, tv, .agg #[.int .i64 p.x, .int .i64 p.y]] w fun e w' => e = .returned (.int .i64 r) ∧ TapeO w' (fun g => T g ∨ w.heap.size ≤ g) tv (addT tv evs (locateE n)) ∧ Moved T w w' := by
  obtain ⟨tp, rfl⟩ : ∃ tp, tv = .pointer tp := by rcases ht with ⟨rfl, _⟩ | ⟨tb, rfl, _⟩ <;> exact ⟨_, rfl⟩
  obtain ⟨W, hW⟩ : ∃ W, W = w.alloc (.cells #[.int .i64 p.x, .int .i64 p.y] 24) := ⟨_, rfl⟩
  have h0 : Below w.heap.size w W := by rw [hW]; exact (Below.refl _ _).alloc (Nat.le_refl _) _
  have HN := Lib.hid hn
  have HR := Lib.hid hr
  have ha2 := (ha.now (fun _ => by simp [ptC])).next h0
  have HT := Lib.hid (tape_mix ht h0)
  have HW := Lib.hid hW
  have hQ2 : ∀ b, (Q b ∧ b < w.heap.size) → ¬ ((T b ∧ b < w.heap.size) ∨ W.heap.size ≤ b) := fun b hb e => by
    rcases e with e | e
    · exact hQT b hb.1 e.1
    · have := h0.size; have := hb.2; omega
  clear hn hr ht hW
  go_enter Tryz.func162, Tryz.ntmps162
  go_wp2_with (fail)
  rw [← HW.out]
  refine (polyLocate_c (.pointer tp) evs _ _ A n c l p r W (fun W2 hm => hw W2 (moved_mix h0 hm)) HT.out he ha2 hQ2 HN.out hl hS hp HR.out).mono ?_
  rintro e w2 ⟨rfl, ht2, hm2⟩
  have hm3 := moved_mix h0 hm2
  have ht3 : TapeO w2 (fun g => T g ∨ w.heap.size ≤ g) (.pointer tp) (addT (.pointer tp) evs (locateE n)) := ht2.imp fun g hg => by
    have := h0.size
    rcases hg with (hg | hg) | hg
    · exact .inl hg.1
    · exact .inr (by omega)
    · exact .inr (by omega)
  go_wp2
  go_ret
  exact ⟨rfl, ht3, hm3⟩
theorem discAreaLocate_any (tv : Value) (evs : List Ev) (T Q : Nat → Prop) (A : Option Addr) (n c : Nat) (l : List Pt) (p : Pt) (r : Int) (w : World) (hw : ∀ W, Moved T w W → Wts W) (ht : TapeO w T tv evs) (he : evs.length ≤ 990000) (ha : RowR w Q 2 ptC A l) (hQT : ∀ b, Q b → ¬ T b) (hn : n = l.length) (hS : SsP l) (hp : S p.x ∧ S p.y) (hr : locD l p = r) :
    Calls Tryz.prog 154 #[.slice A n c, tv, .agg #[.int .i64 p.x, .int .i64 p.y]] w fun e w' => e = .returned (.int .i64 r) ∧ TapeO w' (fun g => T g ∨ w.heap.size ≤ g) tv (addT tv evs (locDE n)) ∧ Moved T w w' := by
  obtain ⟨tp, rfl⟩ : ∃ tp, tv = .pointer tp := by rcases ht with ⟨rfl, _⟩ | ⟨tb, rfl, _⟩ <;> exact ⟨_, rfl⟩
  obtain ⟨W, hW⟩ : ∃ W, W = w.alloc (.cells #[.int .i64 p.x, .int .i64 p.y] 24) := ⟨_, rfl⟩
  have h0 : Below w.heap.size w W := by rw [hW]; exact (Below.refl _ _).alloc (Nat.le_refl _) _
  have HN := Lib.hid hn
  have HR := Lib.hid hr
  have ha2 := (ha.now (fun _ => by simp [ptC])).next h0
  have HT := Lib.hid (tape_mix ht h0)
  have HW := Lib.hid hW
  have hQ2 : ∀ b, (Q b ∧ b < w.heap.size) → ¬ ((T b ∧ b < w.heap.size) ∨ W.heap.size ≤ b) := fun b hb e => by
    rcases e with e | e
    · exact hQT b hb.1 e.1
    · have := h0.size; have := hb.2; omega
  clear hn hr ht hW
  go_enter Tryz.func154, Tryz.ntmps154
  go_wp2_with (fail)
  rw [← HW.out]
  refine (discLocate_c (.pointer tp) evs _ _ A n c l p r W (fun W2 hm => hw W2 (moved_mix h0 hm)) HT.out he ha2 hQ2 HN.out hS hp HR.out).mono ?_
  rintro e w2 ⟨rfl, ht2, hm2⟩
  have hm3 := moved_mix h0 hm2
  have ht3 : TapeO w2 (fun g => T g ∨ w.heap.size ≤ g) (.pointer tp) (addT (.pointer tp) evs (locDE n)) := ht2.imp fun g hg => by
    have := h0.size
    rcases hg with (hg | hg) | hg
    · exact .inl hg.1
    · exact .inr (by omega)
    · exact .inr (by omega)
  go_wp2
  go_ret
  exact ⟨rfl, ht3, hm3⟩
def CkRelC (w : World) (rs : List Rg) (i : Value) (wr : World) : Prop := ∃ k : Nat, i = .int .i64 k ∧ k ≤ rs.length ∧ chk (rs.take k) = 0 ∧ Below w.heap.size w wr
set_option maxHeartbeats 1000000 in
theorem fenceCheck_c (A : Option Addr) (n c : Nat) (rs : List Rg) (r : Int) (Q : Nat → Prop) (w : World) (ha : RowR w Q 3 rgC A rs) (hv : ∀ x ∈ rs, S x.v) (hn : n = rs.length) (hl : n ≤ 1000000) (hr : checkF rs = r) :
    Calls Tryz.prog 67 #[.slice A n c] w fun e w' => e = .returned (.int .i64 r) ∧ Below w.heap.size w w' := by
  have HN := Lib.hid hn
  by_cases hlen : 1 ≤ n ∧ n ≤ 64
  · have HR := Lib.hid (show chk rs = r by rw [← hr]; unfold checkF; rw [if_pos ((lenF_iff _).2 (by rw [← HN.out]; exact hlen))])
    obtain ⟨hl1, hl2⟩ := hlen
    have e1 : decide ((n : Int) < 1) = false := decide_eq_false (by omega)
    have e2 : decide (64 < (n : Int)) = false := decide_eq_false (by omega)
    have HV := Lib.hid hv
    have ha := ha.now (fun _ => Nat.succ_pos 2)
    clear hr hn hv
    go_enter Tryz.func67, Tryz.ntmps67
    go_wp2
    go_loopw [16] (fun i wr => CkRelC w rs i wr) (fun i _ => n - (intOf i).toNat)
    case atStart => exact ⟨0, rfl, Nat.zero_le _, rfl, Below.refl _ _⟩
    case round =>
      obtain ⟨k, rfl, hk, hc0, hb⟩ := hrel
      rw [← HN.out] at hk
      have HC := Lib.hid hc0
      clear hc0
      by_cases hgo : k < n
      · have hgo2 : k < rs.length := by rw [← HN.out]; exact hgo
        obtain ⟨b, o, rfl, ⟨hSb, hbl⟩, c0, c1, c2⟩ := ha.rg2 hgo2
        have c0 := (hb.cell (p := ⟨b, o + k * 3, none⟩) hbl).trans c0
        have c1 := (hb.cell (p := ⟨b, o + k * 3 + 1, none⟩) hbl).trans c1
        have c2 := (hb.cell (p := ⟨b, o + k * 3 + 2, none⟩) hbl).trans c2
        have HSv := Lib.hid (HV.out _ (List.getElem_mem hgo2))
        obtain ⟨z, hz⟩ : ∃ z, sizeF (rs[k]'hgo2).v = z := ⟨_, rfl⟩
        have HZ0 := Lib.hid (show z = 0 → chk rs = 7 from fun h => chk_7 hgo2 HC.out (hz.trans h))
        have HZ1 := Lib.hid (show z ≠ 0 → (((rs[k]'hgo2).l.length : Int) ≠ z) → chk rs = 8 from fun h h2 => chk_8 hgo2 HC.out (by rw [hz]; exact h) (by rw [hz]; exact h2))
        have HZ2 := Lib.hid (show z ≠ 0 → (((rs[k]'hgo2).l.length : Int) = z) → chk (rs.take (k + 1)) = 0 from fun h h2 => chk_step hgo2 HC.out (by rw [hz]; exact h) (by rw [hz]; exact h2))
        have hzb := sizeF_bd (rs[k]'hgo2).v
        rw [hz] at hzb
        have HZ := Lib.hid hz
        clear hz
        generalize rs[k]'hgo2 = g at *
        obtain ⟨d, v, A2, cp, l⟩ := g
        have hSv2 := HSv.out
        simp only at c0 c1 c2 hSv2
        obtain ⟨m, hm⟩ : ∃ m, m = l.length := ⟨_, rfl⟩
        have hY0 := HZ0.out
        have hY1 := HZ1.out
        have hY2 := HZ2.out
        simp only at hY1 hY2
        rw [← hm] at c2 hY1 hY2
        have HY0 := Lib.hid hY0
        have HY1 := Lib.hid hY1
        have HY2 := Lib.hid hY2
        obtain ⟨W, hW⟩ : ∃ W, W = wr.alloc (.cells #[.bool d, .int .i64 v, .slice A2 m cp] 53) := ⟨_, rfl⟩
        obtain ⟨B, hB⟩ : ∃ B, B = wr.heap.size := ⟨_, rfl⟩
        have h0 : Below wr.heap.size wr W := by rw [hW]; exact (Below.refl _ _).alloc (Nat.le_refl _) _
        have k0 : W.cell? ⟨B, 0, none⟩ = some (.bool d) := by rw [hW, hB]; simp [go_sem]
        have k1 : W.cell? ⟨B, 1, none⟩ = some (.int .i64 v) := by rw [hW, hB]; simp [go_sem]
        have k2 : W.cell? ⟨B, 2, none⟩ = some (.slice A2 m cp) := by rw [hW, hB]; simp [go_sem]
        have hbW := hb.trans (h0.mono hb.size)
        have HW := Lib.hid hW
        have HB := Lib.hid hB
        clear hW hB hm hY0 hY1 hY2 HZ0 HZ1 HZ2 hgo2 ha
        go_wp2_with (fail)
        rw [← HW.out, ← HB.out]
        refine (fenceSize_c d v (.slice A2 m cp) z W hSv2 HZ.out).mono ?_
        rintro e w1 ⟨rfl, h1⟩
        have d2 := (h1.cell (p := ⟨B, 2, none⟩) (lt_of_cell k2)).trans k2
        have h2 := hbW.trans (h1.mono hbW.size)
        clear c0 c1 c2 k0 k1 k2
        by_cases ez : z = 0
        · have HE := Lib.hid (HY0.out ez)
          subst ez
          go_wp2
          go_ret
          exact ⟨by rw [← HR.out, HE.out]; rfl, h2⟩
        · have ez2 : (z == 0) = false := by rw [beq_eq_false_iff_ne]; exact ez
          by_cases em : (m : Int) = z
          · have HE := Lib.hid (HY2.out ez em)
            have em2 : ((m : Int) != z) = false := by rw [bne_eq_false_iff_eq]; exact em
            clear em ez
            go_wp2
            go_roundw
            case rel => exact ⟨k + 1, by go_num, by rw [← HN.out]; omega, HE.out, h2⟩
            case measure => simp [intOf]; omega
          · have HE := Lib.hid (HY1.out ez em)
            have em2 : ((m : Int) != z) = true := by rw [bne_iff_ne]; exact em
            clear em ez
            go_wp2
            go_ret
            exact ⟨by rw [← HR.out, HE.out]; rfl, h2⟩
      · have HE := Lib.hid (show chk rs = 0 by
          have : rs.take k = rs := List.take_of_length_le (by rw [← HN.out]; omega)
          rw [← this]; exact HC.out)
        go_wp2
        go_ret
        exact ⟨by rw [← HR.out, HE.out]; rfl, hb⟩
  · have HR := Lib.hid (show r = 6 by rw [← hr]; unfold checkF; rw [if_neg (by intro h; exact hlen (by rw [HN.out]; exact (lenF_iff _).1 h))])
    clear hr hn
    by_cases h1 : 1 ≤ n
    · have e1 : decide ((n : Int) < 1) = false := decide_eq_false (by omega)
      have e2 : decide (64 < (n : Int)) = true := decide_eq_true (by omega)
      clear hlen
      go_enter Tryz.func67, Tryz.ntmps67
      go_wp2
      go_ret
      exact ⟨by rw [HR.out]; rfl, Below.refl _ _⟩
    · have e1 : decide ((n : Int) < 1) = true := decide_eq_true (by omega)
      clear hlen
      go_enter Tryz.func67, Tryz.ntmps67
      go_wp2
      go_ret
      exact ⟨by rw [HR.out]; rfl, Below.refl _ _⟩
end Go.Proofs.YthmkllpdkcmccaaGreatDoor
namespace Go.Proofs.YthmkllpdkcmccaaGreatDoor
open Go.RowKit Go.Maps
set_option maxRecDepth 100000
set_option linter.unusedVariables false
set_option linter.unusedSimpArgs false

theorem validFw_no {q : Int} {rs : List Rg} (h : checkF rs ≠ 0) : validFw q rs = false := by unfold validFw; rw [beq_eq_false_iff_ne.2 h]; rfl
theorem validFw_all {q : Int} {rs : List Rg} (h : checkF rs = 0) : validFw q rs = rs.all (okFw q) := by unfold validFw; rw [h]; rfl
theorem member_no {rs : List Rg} (h : checkF rs ≠ 0) (p : Pt) : memberF rs p = false := by unfold memberF; rw [beq_eq_false_iff_ne.2 h]; rfl
theorem member_in {rs : List Rg} (h : checkF rs = 0) (p : Pt) : memberF rs p = (!denyF rs p && allowF rs p) := by unfold memberF; rw [h]; rfl
theorem and_not (a b : Bool) : bits .andNot .u64 (mk a) (mk b) = mk (!b && a) := by cases a <;> cases b <;> decide +kernel
theorem neg_in (x : Int) : bits .xor .u64 18446744073709551615 (mk (decide (x < 0))) = mk (decide (0 ≤ x)) := by
  rw [xor_mk]; congr 1
  by_cases h : x < 0
  · rw [decide_eq_true h, decide_eq_false (by omega)]; rfl
  · rw [decide_eq_false h, decide_eq_true (by omega)]; rfl
/-- What the loops keep: the tape, and what may have changed. -/
def VRel (q : Int) (w : World) (T : Nat → Prop) (tv : Value) (evs : List Ev) (rs : List Rg) (v i : Value) (wr : World) : Prop :=
  ∃ (k : Nat) (z : Bool), i = .int .i64 k ∧ k ≤ rs.length ∧ v = .int .u64 (mk z) ∧ (rs.take k).all (okFw q) = z ∧ TapeO wr (fun g => T g ∨ w.heap.size ≤ g) tv (addT tv evs (evsV 0 (rs.take k))) ∧ Moved T w wr
theorem locP_tri (l : List Pt) (p : Pt) : locP l p = -1 ∨ locP l p = 0 ∨ locP l p = 1 := by
  unfold locP
  split
  · obtain ⟨k1, k2, k3⟩ := foldl_min (sides l p l.length) 1
    rcases k3 with k3 | k3
    · exact .inr (.inr k3)
    · obtain ⟨i, _, hi⟩ := mem_sides.1 k3
      unfold minL
      rw [← hi]
      have h1 := or_in l
      have h2 : side l i p = -1 ∨ side l i p = 0 ∨ side l i p = 1 := sgn_in _ _ _
      rcases h1 with h1 | h1 | h1 <;> rcases h2 with h2 | h2 | h2 <;> rw [h1, h2] <;> decide
  · exact .inl rfl
theorem locF_tri (r : Rg) (p : Pt) : locF r p = -1 ∨ locF r p = 0 ∨ locF r p = 1 := by
  unfold locF
  split
  · unfold locD; split
    · exact sideC_in _ _ _ _
    · exact .inl rfl
  · exact locP_tri _ _
theorem Lp.moved_to {w : World} {T : Nat → Prop} {tv : Value} {es : List Ev} {D : Nat} {bs : List (Nat × Obj)} {W W' : World} (h : Lp w T tv es D bs W) (hm : Moved (Star w T D) W W') : Moved T w W' := by
  have hlow := h.low
  exact ⟨hm.os.trans h.moved.os, hm.tape.trans h.moved.tape, hm.output.trans h.moved.output, Nat.le_trans h.moved.size hm.size, fun g hg hT => (hm.block g (Nat.lt_of_lt_of_le hg h.moved.size) (fun e => by rcases e with ⟨e, _⟩ | e; exact hT e; omega)).trans (h.moved.block g hg hT)⟩
def MRel (w : World) (T : Nat → Prop) (tv : Value) (evs : List Ev) (rs : List Rg) (p : Pt) (bp : Nat) (a d i : Value) (wr : World) : Prop :=
  ∃ (k : Nat) (za zd : Bool), i = .int .i64 k ∧ k ≤ rs.length ∧ a = .int .u64 (mk za) ∧ d = .int .u64 (mk zd) ∧ allowF (rs.take k) p = za ∧ denyF (rs.take k) p = zd ∧ Lp w T tv (addT tv evs (evsM 0 (rs.take k))) (w.heap.size + 1) [(bp, .cells #[.int .i64 p.x, .int .i64 p.y] 24 (0, 0))] wr

set_option maxHeartbeats 4000000 in
theorem fenceValid_c (q : Int) (tv : Value) (evs : List Ev) (T Q : Nat → Prop) (A : Option Addr) (n c : Nat) (rs : List Rg) (r : Bool) (w : World) (hw : ∀ W, Moved T w W → WtsC q W) (ht : TapeO w T tv evs) (he : evs.length ≤ 700000) (ha : RowR w Q 3 rgC A rs) (hg : RegsOk w Q rs) (hQT : ∀ b, Q b → ¬ T b) (hn : n = rs.length) (hl : n ≤ 1000000) (hr : validFw q rs = r) :
    Calls Tryz.prog 40 #[tv, .slice A n c] w fun e w' => e = .returned (.int .u64 (mk r)) ∧ TapeO w' (fun g => T g ∨ w.heap.size ≤ g) tv (addT tv evs (validFE rs)) ∧ Moved T w w' := by
  obtain ⟨tp, rfl⟩ : ∃ tp, tv = .pointer tp := by rcases ht with ⟨rfl, _⟩ | ⟨tb, rfl, _⟩ <;> exact ⟨_, rfl⟩
  obtain ⟨ck, hck⟩ : ∃ ck, checkF rs = ck := ⟨_, rfl⟩
  have HN := Lib.hid hn
  have HC := Lib.hid hck
  have HSv := Lib.hid (show ∀ x ∈ rs, S x.v from fun x hx => (hg x hx).wf)
  have HT := Lib.hid ht
  by_cases e0 : ck = 0
  · subst e0
    have HR := Lib.hid (show rs.all (okFw q) = r by rw [← hr, validFw_all hck])
    have HF := Lib.hid ((check_iff rs).1 hck).2
    have hE : validFE rs = evsV 0 rs := by unfold validFE; rw [if_pos hck]
    have hn64 := check_64 hck
    rw [← hn] at hn64
    obtain ⟨hn1, hn2⟩ := hn64
    rw [hE]
    have ha0 := ha
    have ha := ha.now (fun _ => Nat.succ_pos 2)
    have HG := Lib.hid (show ∀ x ∈ rs, RowR w (fun b => Q b ∧ b < w.heap.size) 2 ptC x.A x.l ∧ SsP x.l from fun x hx => ⟨(hg x hx).row.now (fun _ => Nat.succ_pos 1), (hg x hx).ss⟩)
    clear hr hn hck ht hE hg
    go_enter Tryz.func40, Tryz.ntmps40
    go_wp2_with (fail)
    refine (fenceCheck_c A n c rs 0 Q w ha0 HSv.out HN.out hl HC.out).mono ?_
    rintro e w1 ⟨rfl, h1⟩
    go_wp2
    go_loopw [5, 13] (fun v i wr => VRel q w T (.pointer tp) evs rs v i wr) (fun _ i _ => n - (intOf i).toNat)
    case atStart => exact ⟨0, true, rfl, Nat.zero_le _, by show _ = Value.int .u64 _; rfl, rfl, by show TapeO _ _ _ (addT _ _ []); rw [addT_nil HT.out]; exact (HT.out.next h1).imp fun g hg => .inl hg, .of_below h1⟩
    case round =>
      obtain ⟨k, zk, rfl, hk, rfl, hzk, htr, hmr⟩ := hrel
      rw [← HN.out] at hk
      have HK := Lib.hid hzk
      clear hzk h1 ha0
      by_cases hgo : k < n
      · have hgo2 : k < rs.length := by rw [← HN.out]; exact hgo
        obtain ⟨b, o, rfl, ⟨hQb, hbl⟩, c0, c1, c2⟩ := ha.rg2 hgo2
        have c0 := (hmr.cell (p := ⟨b, o + k * 3, none⟩) hbl (hQT b hQb)).trans c0
        have c1 := (hmr.cell (p := ⟨b, o + k * 3 + 1, none⟩) hbl (hQT b hQb)).trans c1
        have c2 := (hmr.cell (p := ⟨b, o + k * 3 + 2, none⟩) hbl (hQT b hQb)).trans c2
        obtain ⟨hpr, hss⟩ := HG.out _ (List.getElem_mem hgo2)
        have HFk := Lib.hid (fit_rg (HF.out _ (List.getElem_mem hgo2)))
        obtain ⟨z, hz⟩ : ∃ z, (okFw q) (rs[k]'hgo2) = z := ⟨_, rfl⟩
        have HZ1 := Lib.hid (show (rs.take (k + 1)).all (okFw q) = (zk && z) from by rw [all_snoc hgo2, HK.out, hz])
        have HEV := Lib.hid (show evsV 0 (rs.take (k + 1)) = evsV 0 (rs.take k) ++ evV k (rs[k]'hgo2) from evsV_snoc hgo2)
        obtain ⟨E0, hE0⟩ : ∃ E0, E0 = addT (.pointer tp) evs (evsV 0 (rs.take k)) := ⟨_, rfl⟩
        have HE0 := Lib.hid hE0
        have hlen : E0.length ≤ 980000 := by
          have h1 := addT_le (.pointer tp) evs (evsV 0 (rs.take k))
          have h2 := evsV_len (rs.take k) 0
          rw [List.length_take] at h2
          have : 4097 * min k rs.length ≤ 4097 * 64 := Nat.mul_le_mul (Nat.le_refl _) (by omega)
          rw [hE0]; omega
        rw [← hE0] at htr
        have HZ := Lib.hid hz
        clear hz hE0
        generalize rs[k]'hgo2 = g at *
        obtain ⟨d, v, A2, cp, l⟩ := g
        simp only at c0 c1 c2 hpr hss
        have hF2 := HFk.out
        simp only at hF2
        have hl2 : l.length ≤ 1000000 := by omega
        obtain ⟨m, hm⟩ : ∃ m, m = l.length := ⟨_, rfl⟩
        rw [← hm] at c2 hF2 hl2
        obtain ⟨W, hW⟩ : ∃ W, W = wr.alloc (.cells #[.bool d, .int .i64 v, .slice A2 m cp] 53) := ⟨_, rfl⟩
        obtain ⟨B, hB⟩ : ∃ B, B = wr.heap.size := ⟨_, rfl⟩
        have h0 : Below wr.heap.size wr W := by rw [hW]; exact (Below.refl _ _).alloc (Nat.le_refl _) _
        have k0 : W.cell? ⟨B, 0, none⟩ = some (.bool d) := by rw [hW, hB]; simp [go_sem]
        have k1 : W.cell? ⟨B, 1, none⟩ = some (.int .i64 v) := by rw [hW, hB]; simp [go_sem]
        have k2 : W.cell? ⟨B, 2, none⟩ = some (.slice A2 m cp) := by rw [hW, hB]; simp [go_sem]
        have hBW : B < W.heap.size := lt_of_cell k0
        have hBr : ¬ B < wr.heap.size := by omega
        have ht2 := tape_mix htr h0
        have HM := Lib.hid hm
        have HW := Lib.hid hW
        have HB := Lib.hid hB
        have HA := Lib.hid ha
        clear hW hB hm hgo2 ha
        go_wp2_with (fail)
        rw [← HW.out, ← HB.out]
        refine (noteO_any (.pointer tp) _ _ 7 k 0 W ht2 (by omega) (by decide) (fun g hg => .inr hg)).mono ?_
        rintro e w3 ⟨rfl, ht3, hm3⟩
        have hoff : ¬ (((T B ∨ w.heap.size ≤ B) ∧ B < wr.heap.size) ∨ W.heap.size ≤ B) := fun h => h.elim (fun h => hBr h.2) (fun h => absurd hBW (Nat.not_lt.2 h))
        have j0 := (hm3.cell (p := ⟨B, 0, none⟩) hBW hoff).trans k0
        have j1 := (hm3.cell (p := ⟨B, 1, none⟩) hBW hoff).trans k1
        have j2 := (hm3.cell (p := ⟨B, 2, none⟩) hBW hoff).trans k2
        have hm4 : Moved T w w3 := moved_out hmr (moved_mix h0 hm3)
        have hsz1 := hmr.size
        have hsz0 := h0.size
        have ht4 : TapeO w3 (fun g => T g ∨ w.heap.size ≤ g) (.pointer tp) (addT (.pointer tp) E0 [⟨7, k, 0⟩]) := ht3.imp fun g hg => by rcases hg with hg | hg; exact hg.1; exact .inr (by omega)
        have hlen2 : (addT (.pointer tp) E0 [⟨7, k, 0⟩]).length ≤ 990000 := by have := addT_le (.pointer tp) E0 [⟨7, k, 0⟩]; simp at this; omega
        have hQ2 : ∀ b, (Q b ∧ b < w.heap.size) → ¬ (T b ∨ w.heap.size ≤ b) := fun b hb e => by
          rcases e with e | e
          · exact hQT b hb.1 e
          · have := hb.2; omega
        clear c0 c1 c2 k0 k1 k2 ht2 htr ht3
        by_cases ev : v = 0
        · subst ev
          have HV := Lib.hid (show validDw q l = z by rw [← HZ.out]; unfold okFw; rw [if_pos rfl])
          have HEV2 := Lib.hid (show addT (.pointer tp) (addT (.pointer tp) E0 [⟨7, k, 0⟩]) (validDE m) = addT (.pointer tp) evs (evsV 0 (rs.take (k + 1))) by
            rw [HEV.out, HE0.out, addT_assoc, addT_assoc]
            congr 2
            unfold evV
            rw [if_pos rfl, show validDE m = [⟨4, 0, 2⟩] by unfold validDE; rw [if_pos (by omega)]]
            rfl)
          clear hF2
          go_wp2_with (fail)
          refine (areaDisc_any d A2 m cp w3).mono ?_
          rintro e w5 ⟨rfl, h5⟩
          have hm5 : Moved T w w5 := hm4.trans (.of_below h5)
          go_wp2_with (fail)
          refine (discAreaValid_any q (.pointer tp) _ (fun g => T g ∨ w.heap.size ≤ g) (fun b => Q b ∧ b < w.heap.size) A2 m cp l z w5 (fun W2 hm => hw W2 (moved_out hm5 hm)) (ht4.next h5) hlen2 (hpr.keep fun b hb _ => hm5.block b hb.2 (hQT b hb.1)) hQ2 HM.out hss HV.out).mono ?_
          rintro e w6 ⟨rfl, ht6, hm6⟩
          have hm7 := moved_out hm5 hm6
          have hsz5 := hm5.size
          have ht7 : TapeO w6 (fun g => T g ∨ w.heap.size ≤ g) (.pointer tp) (addT (.pointer tp) evs (evsV 0 (rs.take (k + 1)))) := by
            rw [← HEV2.out]
            exact ht6.imp fun g hg => hg.elim id (fun h => .inr (by omega))
          have HA2 := Lib.hid (mk_and zk z)
          clear ht4 ht6
          go_wp2
          go_roundw
          case rel => exact ⟨k + 1, zk && z, by go_num, by rw [← HN.out]; omega, by rw [← HA2.out], HZ1.out, ht7, hm7⟩
          case measure => simp [intOf]; omega
        · have hd : (v == 0) = false := by rw [beq_eq_false_iff_ne]; exact ev
          have HV := Lib.hid (show validP l = z by rw [← HZ.out]; unfold okFw; rw [if_neg ev])
          have HEV2 := Lib.hid (show addT (.pointer tp) (addT (.pointer tp) E0 [⟨7, k, 0⟩]) (validE m) = addT (.pointer tp) evs (evsV 0 (rs.take (k + 1))) by
            rw [HEV.out, HE0.out, addT_assoc, addT_assoc]
            congr 2
            unfold evV
            rw [if_neg ev, show v.toNat = m by omega]
            rfl)
          clear hF2 ev
          go_wp2_with (fail)
          refine (areaPoly_any d v A2 m cp w3 hd).mono ?_
          rintro e w5 ⟨rfl, h5⟩
          have hm5 : Moved T w w5 := hm4.trans (.of_below h5)
          go_wp2_with (fail)
          refine (polyAreaValid_any (.pointer tp) _ (fun g => T g ∨ w.heap.size ≤ g) (fun b => Q b ∧ b < w.heap.size) A2 m cp l z w5 (fun W2 hm => (hw W2 (moved_out hm5 hm)).wts) (ht4.next h5) hlen2 (hpr.keep fun b hb _ => hm5.block b hb.2 (hQT b hb.1)) hQ2 HM.out hl2 hss HV.out).mono ?_
          rintro e w6 ⟨rfl, ht6, hm6⟩
          have hm7 := moved_out hm5 hm6
          have hsz5 := hm5.size
          have ht7 : TapeO w6 (fun g => T g ∨ w.heap.size ≤ g) (.pointer tp) (addT (.pointer tp) evs (evsV 0 (rs.take (k + 1)))) := by
            rw [← HEV2.out]
            exact ht6.imp fun g hg => hg.elim id (fun h => .inr (by omega))
          have HA2 := Lib.hid (mk_and zk z)
          clear ht4 ht6
          go_wp2
          go_roundw
          case rel => exact ⟨k + 1, zk && z, by go_num, by rw [← HN.out]; omega, by rw [← HA2.out], HZ1.out, ht7, hm7⟩
          case measure => simp [intOf]; omega
      · have HE := Lib.hid (show rs.take k = rs from List.take_of_length_le (by rw [← HN.out]; omega))
        have HR2 := Lib.hid (show zk = r by rw [← HK.out, HE.out, HR.out])
        go_wp2
        go_ret
        rw [HE.out] at htr
        exact ⟨by rw [HR2.out]; rfl, htr, hmr⟩
  · have HR := Lib.hid (show r = false by rw [← hr]; exact validFw_no (by rw [hck]; exact e0))
    have hE : validFE rs = [] := by unfold validFE; rw [if_neg (by rw [hck]; exact e0)]
    rw [hE, addT_nil ht]
    have d0 : (ck != 0) = true := by rw [bne_iff_ne]; exact e0
    clear hr hn hck ht hE hg e0
    go_enter Tryz.func40, Tryz.ntmps40
    go_wp2_with (fail)
    refine (fenceCheck_c A n c rs ck Q w ha HSv.out HN.out hl HC.out).mono ?_
    rintro e w1 ⟨rfl, h1⟩
    go_wp2
    go_ret
    exact ⟨by rw [HR.out]; rfl, (HT.out.next h1).imp fun g hg => .inl hg, .of_below h1⟩

set_option maxHeartbeats 4000000 in
theorem fenceMember_c (q : Int) (tv : Value) (evs : List Ev) (T Q : Nat → Prop) (A : Option Addr) (n c : Nat) (rs : List Rg) (p : Pt) (r : Bool) (w : World) (hw : ∀ W, Moved T w W → WtsC q W) (ht : TapeO w T tv evs) (he : evs.length ≤ 700000) (ha : RowR w Q 3 rgC A rs) (hg : RegsOk w Q rs) (hQT : ∀ b, Q b → ¬ T b) (hn : n = rs.length) (hl : n ≤ 1000000) (hp : S p.x ∧ S p.y) (hr : memberF rs p = r) :
    Calls Tryz.prog 41 #[tv, .slice A n c, .agg #[.int .i64 p.x, .int .i64 p.y]] w fun e w' => e = .returned (.int .u64 (mk r)) ∧ TapeO w' (fun g => T g ∨ w.heap.size ≤ g) tv (addT tv evs (memberFE rs)) ∧ Moved T w w' := by
  obtain ⟨tp, rfl⟩ : ∃ tp, tv = .pointer tp := by rcases ht with ⟨rfl, _⟩ | ⟨tb, rfl, _⟩ <;> exact ⟨_, rfl⟩
  obtain ⟨ck, hck⟩ : ∃ ck, checkF rs = ck := ⟨_, rfl⟩
  replace hw : ∀ W, Moved T w W → Wts W := fun W h => (hw W h).wts
  have HN := Lib.hid hn
  have HC := Lib.hid hck
  have HP := Lib.hid hp
  have HSv := Lib.hid (show ∀ x ∈ rs, S x.v from fun x hx => (hg x hx).wf)
  have HT := Lib.hid ht
  obtain ⟨W0, hW0⟩ : ∃ W0, W0 = w.alloc (.cells #[.int .i64 p.x, .int .i64 p.y] 24) := ⟨_, rfl⟩
  obtain ⟨bp, hbp⟩ : ∃ b, b = w.heap.size := ⟨_, rfl⟩
  have hb0 : Below w.heap.size w W0 := by rw [hW0]; exact (Below.refl _ _).alloc (Nat.le_refl _) _
  have hz0 : W0.heap[bp]? = some (.cells #[.int .i64 p.x, .int .i64 p.y] 24) := by rw [hW0, hbp]; exact heap_alloc_new _ _
  have hs0 : W0.heap.size = w.heap.size + 1 := by rw [hW0, World.size_alloc]
  have HW0 := Lib.hid hW0
  have Hbp := Lib.hid hbp
  clear hW0
  by_cases e0 : ck = 0
  · subst e0
    have HR := Lib.hid (show (!denyF rs p && allowF rs p) = r by rw [← hr, member_in hck])
    have HF := Lib.hid ((check_iff rs).1 hck).2
    have hE : memberFE rs = evsM 0 rs := by unfold memberFE; rw [if_pos hck]
    have hn64 := check_64 hck
    rw [← hn] at hn64
    obtain ⟨hn1, hn2⟩ := hn64
    rw [hE]
    have ha0 := ha.next hb0
    have ha := ha.now (fun _ => Nat.succ_pos 2)
    have HG := Lib.hid (show ∀ x ∈ rs, RowR w (fun b => Q b ∧ b < w.heap.size) 2 ptC x.A x.l ∧ SsP x.l from fun x hx => ⟨(hg x hx).row.now (fun _ => Nat.succ_pos 1), (hg x hx).ss⟩)
    have HBP : Hid (bp < w.heap.size + 1 ∧ w.heap.size ≤ bp) := Lib.hid ⟨by omega, by omega⟩
    have HS0 := Lib.hid hs0
    clear hr hn hck ht hE hg hp hbp hs0
    go_enter Tryz.func41, Tryz.ntmps41
    go_upto_region 1 with (fail)
    rw [← HW0.out, ← Hbp.out]
    go_wp2_with (fail)
    refine (fenceCheck_c A n c rs 0 Q W0 ha0 HSv.out HN.out hl HC.out).mono ?_
    rintro e w1 ⟨rfl, h1⟩
    go_wp2
    go_loopw [7, 8, 17] (fun a d i wr => MRel w T (.pointer tp) evs rs p bp a d i wr) (fun _ _ i _ => n - (intOf i).toNat)
    case atStart =>
      refine ⟨0, false, false, rfl, Nat.zero_le _, by show _ = Value.int .u64 _; rfl, by show _ = Value.int .u64 _; rfl, rfl, rfl, ?_⟩
      have hb1 := hb0.trans (h1.mono hb0.size)
      have hsz := h1.size
      rw [HS0.out] at hsz
      refine ⟨.of_below hb1, Nat.le_succ _, hsz, fun q hq => ?_, ?_⟩
      · obtain rfl : q = _ := by simpa using hq
        exact ⟨HBP.out.2, HBP.out.1, (h1.block bp (by rw [HS0.out]; exact HBP.out.1)).trans hz0⟩
      · show TapeO _ _ _ (addT _ _ [])
        rw [addT_nil HT.out]
        exact (HT.out.now.next hb1).imp fun g hg => .inl hg
    case round =>
      obtain ⟨k, za, zd, rfl, hk, rfl, rfl, hza, hzd, hLp⟩ := hrel
      rw [← HN.out] at hk
      have HZA := Lib.hid hza
      have HZD := Lib.hid hzd
      clear hza hzd h1 ha0 hz0 hb0
      by_cases hgo : k < n
      · have hgo2 : k < rs.length := by rw [← HN.out]; exact hgo
        have hmr := hLp.moved
        obtain ⟨b, o, rfl, ⟨hQb, hbl⟩, c0, c1, c2⟩ := ha.rg2 hgo2
        have c0 := (hmr.cell (p := ⟨b, o + k * 3, none⟩) hbl (hQT b hQb)).trans c0
        have c1 := (hmr.cell (p := ⟨b, o + k * 3 + 1, none⟩) hbl (hQT b hQb)).trans c1
        have c2 := (hmr.cell (p := ⟨b, o + k * 3 + 2, none⟩) hbl (hQT b hQb)).trans c2
        obtain ⟨hpr, hss⟩ := HG.out _ (List.getElem_mem hgo2)
        have HFk := Lib.hid (fit_rg (HF.out _ (List.getElem_mem hgo2)))
        obtain ⟨x, hx⟩ : ∃ x, locF (rs[k]'hgo2) p = x := ⟨_, rfl⟩
        obtain ⟨z, hz⟩ : ∃ z, decide (0 ≤ x) = z := ⟨_, rfl⟩
        have hxS : S x := by have := locF_tri (rs[k]'hgo2) p; rw [hx] at this; unfold S; omega
        have hin : inF (rs[k]'hgo2) p = z := by unfold inF; rw [hx]; exact hz
        have HAs := Lib.hid (allowF_snoc hgo2 p)
        have HDs := Lib.hid (denyF_snoc hgo2 p)
        have HIN := Lib.hid hin
        have HX := Lib.hid hx
        have HZN := Lib.hid (show bits .xor .u64 18446744073709551615 (mk (decide (x < 0))) = mk z by rw [neg_in, hz])
        have HEV := Lib.hid (show evsM 0 (rs.take (k + 1)) = evsM 0 (rs.take k) ++ evM k (rs[k]'hgo2) from evsM_snoc hgo2)
        obtain ⟨E0, hE0⟩ : ∃ E0, E0 = addT (.pointer tp) evs (evsM 0 (rs.take k)) := ⟨_, rfl⟩
        have HE0 := Lib.hid hE0
        have hlen : E0.length ≤ 980000 := by
          have h1 := addT_le (.pointer tp) evs (evsM 0 (rs.take k))
          have h2 := evsM_len (rs.take k) 0
          rw [List.length_take] at h2
          have : 4097 * min k rs.length ≤ 4097 * 64 := Nat.mul_le_mul (Nat.le_refl _) (by omega)
          rw [hE0]; omega
        rw [← hE0] at hLp
        clear hx hin hz hE0
        generalize rs[k]'hgo2 = g at *
        obtain ⟨d, vv, A2, cp, l⟩ := g
        simp only at c0 c1 c2 hpr hss
        have hF2 := HFk.out
        simp only at hF2
        have hl2 : l.length ≤ 1000000 := by omega
        have HAs2 := Lib.hid (show allowF (rs.take (k + 1)) p = (za || (!d && z)) by rw [HAs.out, HZA.out, HIN.out])
        have HDs2 := Lib.hid (show denyF (rs.take (k + 1)) p = (zd || (d && z)) by rw [HDs.out, HZD.out, HIN.out])
        obtain ⟨m, hm⟩ : ∃ m, m = l.length := ⟨_, rfl⟩
        rw [← hm] at c2 hF2 hl2
        obtain ⟨W, hW⟩ : ∃ W, W = wr.alloc (.cells #[.bool d, .int .i64 vv, .slice A2 m cp] 53) := ⟨_, rfl⟩
        obtain ⟨B, hB⟩ : ∃ B, B = wr.heap.size := ⟨_, rfl⟩
        have h0 : Below wr.heap.size wr W := by rw [hW]; exact (Below.refl _ _).alloc (Nat.le_refl _) _
        have k0 : W.cell? ⟨B, 0, none⟩ = some (.bool d) := by rw [hW, hB]; simp [go_sem]
        have k1 : W.cell? ⟨B, 1, none⟩ = some (.int .i64 vv) := by rw [hW, hB]; simp [go_sem]
        have k2 : W.cell? ⟨B, 2, none⟩ = some (.slice A2 m cp) := by rw [hW, hB]; simp [go_sem]
        have hBW : B < W.heap.size := lt_of_cell k0
        have hBr : ¬ B < wr.heap.size := by omega
        have ht2 := tape_mix hLp.tape h0
        obtain ⟨hbp1, hbp2⟩ := HBP.out
        have hsz1 := hLp.size
        have hsz0 := h0.size
        have hbW : bp < W.heap.size := by omega
        have hpo := hLp.at_ (b := bp) (.head _)
        have hpo2 := (h0.block bp (by omega)).trans hpo
        have x0 : W.cell? ⟨bp, 0, none⟩ = some (.int .i64 p.x) := by simp [World.cell?, hpo2]
        have x1 : W.cell? ⟨bp, 1, none⟩ = some (.int .i64 p.y) := by simp [World.cell?, hpo2]
        have hoffp : ¬ ((Star w T (w.heap.size + 1) bp ∧ bp < wr.heap.size) ∨ W.heap.size ≤ bp) := fun h => h.elim (fun h => Star.not hbp2 hbp1 h.1) (fun h => absurd hbW (Nat.not_lt.2 h))
        have hoff : ¬ ((Star w T (w.heap.size + 1) B ∧ B < wr.heap.size) ∨ W.heap.size ≤ B) := fun h => h.elim (fun h => hBr h.2) (fun h => absurd hBW (Nat.not_lt.2 h))
        have hQ2 : ∀ b, (Q b ∧ b < w.heap.size) → ¬ ((Star w T (w.heap.size + 1) b ∧ b < wr.heap.size) ∨ W.heap.size ≤ b) := fun b hb e => by
          rcases e with e | e
          · exact Lp.rowOff (Nat.le_succ _) hQT b hb e.1
          · have := hb.2; omega
        have HM := Lib.hid hm
        have HW := Lib.hid hW
        have HB := Lib.hid hB
        have HA := Lib.hid ha
        clear hW hB hm hgo2 ha hpo hpo2 HAs HDs
        go_upto_region 7 with (fail)
        rw [← HW.out, ← HB.out]
        go_wp2_with (fail)
        refine (noteO_any (.pointer tp) _ _ 7 k 1 W ht2 (by omega) (by decide) (fun g hg => .inr hg)).mono ?_
        rintro e w3 ⟨rfl, ht4, hm3⟩
        have j0 := (hm3.cell (p := ⟨B, 0, none⟩) hBW hoff).trans k0
        have j1 := (hm3.cell (p := ⟨B, 1, none⟩) hBW hoff).trans k1
        have j2 := (hm3.cell (p := ⟨B, 2, none⟩) hBW hoff).trans k2
        have y0 := (hm3.cell (p := ⟨bp, 0, none⟩) hbW hoffp).trans x0
        have y1 := (hm3.cell (p := ⟨bp, 1, none⟩) hbW hoffp).trans x1
        have hB3 : B < w3.heap.size := lt_of_cell j0
        have hlen2 : (addT (.pointer tp) E0 [⟨7, k, 1⟩]).length ≤ 990000 := by have := addT_le (.pointer tp) E0 [⟨7, k, 1⟩]; simp at this; omega
        clear c0 c1 c2 k0 k1 k2 x0 x1 ht2
        by_cases ev : vv = 0
        · subst ev
          have HX2 := Lib.hid (show locD l p = x by rw [← HX.out]; unfold locF; rw [if_pos rfl])
          have HEV2 := Lib.hid (show addT (.pointer tp) (addT (.pointer tp) E0 [⟨7, k, 1⟩]) (locDE m) = addT (.pointer tp) evs (evsM 0 (rs.take (k + 1))) by
            rw [HEV.out, HE0.out, addT_assoc, addT_assoc]
            congr 2
            unfold evM
            rw [if_pos rfl, show locDE m = [⟨6, 0, 0⟩] by unfold locDE; rw [if_pos (by omega)]]
            rfl)
          clear hF2
          go_upto_region 8 with (fail)
          refine dir_plain (by kernel_rfl) 4 [[], [(25, 0)], [], [], [(26, 1), (27, 2), (28, 3)], [(29, 4)], [(30, 5)], [(31, 6)]] [(25, 0), (26, 1), (27, 2), (28, 3)] [
              (fun v _ => v = .agg #[.bool d, .int .i64 0, .slice A2 m cp]),
              (fun v _ => v = .iface 136 (.slice A2 m cp)),
              (fun v _ => v = .pointer tp),
              (fun v _ => v = .agg #[.int .i64 p.x, .int .i64 p.y])
            ] (by kernel_rfl) (by kernel_rfl) (by kernel_rfl) (by decide) ⟨dstab_eq, dstab_eq, dstab_eq, dstab_eq, trivial⟩ ?steps ?fin
          case steps =>
            refine ⟨?_, ?_, ?_, ?_, trivial⟩
            · intro vs g w2 hI hF hR K hK
              simp only [Facts, fill, Act.put, z1, z2, z3, z4, z5, Nat.reduceAdd] at hF hR hK ⊢
              have k0 := (hI.cell (lt_of_cell j0)).trans j0
              have k1 := (hI.cell (lt_of_cell j1)).trans j1
              have k2 := (hI.cell (lt_of_cell j2)).trans j2
              go_simp
              exact hK _ () _ hI (Below.refl _ _) rfl
            · intro vs g w2 hI hF hR K hK
              simp only [Facts, fill, Act.put, z1, z2, z3, z4, z5, Nat.reduceAdd] at hF hR hK ⊢
              obtain ⟨r0, -⟩ := hR
              generalize vs 0 = x0 at *
              subst r0
              go_simp
              refine (areaDisc_any d A2 m cp w2).mono ?_
              rintro e w3 ⟨rfl, hb⟩
              exact hK _ () _ (hI.trans (hb.mono hI.size)) hb rfl
            · intro vs g w2 hI hF hR K hK
              simp only [Facts, fill, Act.put, z1, z2, z3, z4, z5, Nat.reduceAdd] at hF hR hK ⊢
              go_simp
              exact hK _ () _ hI (Below.refl _ _) rfl
            · intro vs g w2 hI hF hR K hK
              simp only [Facts, fill, Act.put, z1, z2, z3, z4, z5, Nat.reduceAdd] at hF hR hK ⊢
              have k0 := (hI.cell (lt_of_cell y0)).trans y0
              have k1 := (hI.cell (lt_of_cell y1)).trans y1
              go_simp
              exact hK _ () _ hI (Below.refl _ _) rfl
          case fin =>
            intro vs w2 hI hR
            have r1 := hR 1 (by decide)
            have r2 := hR 2 (by decide)
            have r3 := hR 3 (by decide)
            simp only [fill, Act.put, z1, z2, z3, z4, z5] at r1 r2 r3 ⊢
            clear hR
            generalize vs 1 = x1 at *
            generalize vs 2 = x2 at *
            generalize vs 3 = x3 at *
            subst r1 r2 r3
            have hI3 := hI
            have ht5 := ht4.next hI
            have hm5 := moved_mix h0 (hm3.trans (.of_below hI))
            have hs3 := hI.size
            refine wpOps_step rfl rfl ?_
            go_simp
            go_invoke
            refine (discAreaLocate_any (.pointer tp) _ (fun g => (Star w T (w.heap.size + 1) g ∧ g < wr.heap.size) ∨ W.heap.size ≤ g) (fun b => Q b ∧ b < w.heap.size) A2 m cp l p x w2 (fun W2 hm => hw W2 (hLp.moved_to (moved_mix h0 ((hm3.trans (.of_below hI)).trans hm)))) ht5 hlen2 (hpr.keep fun b hb _ => (hLp.moved_to hm5).block b hb.2 (hQT b hb.1)) hQ2 HM.out hss HP.out HX2.out).mono ?_
            rintro e w6 ⟨rfl, ht6, hm6⟩
            refine wpOps_step rfl rfl ?_
            go_simp
            have hmv6 : Moved T w w6 := hLp.moved_to (moved_mix h0 ((hm3.trans (.of_below hI)).trans hm6))
            refine (negative_b x hxS w6 (hw w6 hmv6)).mono ?_
            rintro e w7 ⟨rfl, h7⟩
            refine wpOps_step rfl rfl ?_
            go_simp
            refine wpOps_step rfl rfl ?_
            go_simp
            refine NoPanic.normal ?_
            have hs6 := hm6.size
            have hm37 := ((hm3.trans (.of_below hI)).trans hm6).trans (.of_below h7)
            have ht7 : TapeO w7 (Star w T (w.heap.size + 1)) (.pointer tp) (addT (.pointer tp) evs (evsM 0 (rs.take (k + 1)))) := by
              rw [← HEV2.out]
              refine (ht6.next h7).imp fun g hg => ?_
              rcases hg with (hg | hg) | hg
              · exact hg.1
              · exact .inr (by omega)
              · exact .inr (by omega)
            have hL7 := hLp.step (moved_mix h0 hm37) ht7
            have u0 := (h7.cell (p := ⟨B, 0, none⟩) (Nat.lt_of_lt_of_le hB3 (Nat.le_trans hs3 hs6))).trans ((hm6.cell (p := ⟨B, 0, none⟩) (Nat.lt_of_lt_of_le hB3 hs3) hoff).trans ((hI.cell (p := ⟨B, 0, none⟩) hB3).trans j0))
            clear j0 j1 j2 y0 y1 ht5 ht6 ht7 ht4
            cases d with
            | true =>
              have HO2 := Lib.hid (mk_or zd z)
              go_wp2
              go_roundw
              case rel => exact ⟨k + 1, za, zd || z, by go_num, by rw [← HN.out]; omega, rfl, by rw [← HO2.out, ← HZN.out]; rfl, by rw [HAs2.out]; simp, by rw [HDs2.out]; simp, hL7⟩
              case measure => simp [intOf]; omega
            | false =>
              have HO2 := Lib.hid (mk_or za z)
              go_wp2
              go_roundw
              case rel => exact ⟨k + 1, za || z, zd, by go_num, by rw [← HN.out]; omega, by rw [← HO2.out, ← HZN.out]; rfl, rfl, by rw [HAs2.out]; simp, by rw [HDs2.out]; simp, hL7⟩
              case measure => simp [intOf]; omega
        · have hd : (vv == 0) = false := by rw [beq_eq_false_iff_ne]; exact ev
          have HX2 := Lib.hid (show locP l p = x by rw [← HX.out]; unfold locF; rw [if_neg ev])
          have HEV2 := Lib.hid (show addT (.pointer tp) (addT (.pointer tp) E0 [⟨7, k, 1⟩]) (locateE m) = addT (.pointer tp) evs (evsM 0 (rs.take (k + 1))) by
            rw [HEV.out, HE0.out, addT_assoc, addT_assoc]
            congr 2
            unfold evM
            rw [if_neg ev, show vv.toNat = m by omega]
            rfl)
          clear hF2 ev
          go_upto_region 8 with (fail)
          refine dir_plain (by kernel_rfl) 4 [[], [(25, 0)], [], [], [(26, 1), (27, 2), (28, 3)], [(29, 4)], [(30, 5)], [(31, 6)]] [(25, 0), (26, 1), (27, 2), (28, 3)] [
              (fun v _ => v = .agg #[.bool d, .int .i64 vv, .slice A2 m cp]),
              (fun v _ => v = .iface 137 (.slice A2 m cp)),
              (fun v _ => v = .pointer tp),
              (fun v _ => v = .agg #[.int .i64 p.x, .int .i64 p.y])
            ] (by kernel_rfl) (by kernel_rfl) (by kernel_rfl) (by decide) ⟨dstab_eq, dstab_eq, dstab_eq, dstab_eq, trivial⟩ ?steps ?fin
          case steps =>
            refine ⟨?_, ?_, ?_, ?_, trivial⟩
            · intro vs g w2 hI hF hR K hK
              simp only [Facts, fill, Act.put, z1, z2, z3, z4, z5, Nat.reduceAdd] at hF hR hK ⊢
              have k0 := (hI.cell (lt_of_cell j0)).trans j0
              have k1 := (hI.cell (lt_of_cell j1)).trans j1
              have k2 := (hI.cell (lt_of_cell j2)).trans j2
              go_simp
              exact hK _ () _ hI (Below.refl _ _) rfl
            · intro vs g w2 hI hF hR K hK
              simp only [Facts, fill, Act.put, z1, z2, z3, z4, z5, Nat.reduceAdd] at hF hR hK ⊢
              obtain ⟨r0, -⟩ := hR
              generalize vs 0 = x0 at *
              subst r0
              go_simp
              refine (areaPoly_any d vv A2 m cp w2 hd).mono ?_
              rintro e w3 ⟨rfl, hb⟩
              exact hK _ () _ (hI.trans (hb.mono hI.size)) hb rfl
            · intro vs g w2 hI hF hR K hK
              simp only [Facts, fill, Act.put, z1, z2, z3, z4, z5, Nat.reduceAdd] at hF hR hK ⊢
              go_simp
              exact hK _ () _ hI (Below.refl _ _) rfl
            · intro vs g w2 hI hF hR K hK
              simp only [Facts, fill, Act.put, z1, z2, z3, z4, z5, Nat.reduceAdd] at hF hR hK ⊢
              have k0 := (hI.cell (lt_of_cell y0)).trans y0
              have k1 := (hI.cell (lt_of_cell y1)).trans y1
              go_simp
              exact hK _ () _ hI (Below.refl _ _) rfl
          case fin =>
            intro vs w2 hI hR
            have r1 := hR 1 (by decide)
            have r2 := hR 2 (by decide)
            have r3 := hR 3 (by decide)
            simp only [fill, Act.put, z1, z2, z3, z4, z5] at r1 r2 r3 ⊢
            clear hR
            generalize vs 1 = x1 at *
            generalize vs 2 = x2 at *
            generalize vs 3 = x3 at *
            subst r1 r2 r3
            have hI3 := hI
            have ht5 := ht4.next hI
            have hm5 := moved_mix h0 (hm3.trans (.of_below hI))
            have hs3 := hI.size
            refine wpOps_step rfl rfl ?_
            go_simp
            go_invoke
            refine (polyAreaLocate_any (.pointer tp) _ (fun g => (Star w T (w.heap.size + 1) g ∧ g < wr.heap.size) ∨ W.heap.size ≤ g) (fun b => Q b ∧ b < w.heap.size) A2 m cp l p x w2 (fun W2 hm => hw W2 (hLp.moved_to (moved_mix h0 ((hm3.trans (.of_below hI)).trans hm)))) ht5 hlen2 (hpr.keep fun b hb _ => (hLp.moved_to hm5).block b hb.2 (hQT b hb.1)) hQ2 HM.out hl2 hss HP.out HX2.out).mono ?_
            rintro e w6 ⟨rfl, ht6, hm6⟩
            refine wpOps_step rfl rfl ?_
            go_simp
            have hmv6 : Moved T w w6 := hLp.moved_to (moved_mix h0 ((hm3.trans (.of_below hI)).trans hm6))
            refine (negative_b x hxS w6 (hw w6 hmv6)).mono ?_
            rintro e w7 ⟨rfl, h7⟩
            refine wpOps_step rfl rfl ?_
            go_simp
            refine wpOps_step rfl rfl ?_
            go_simp
            refine NoPanic.normal ?_
            have hs6 := hm6.size
            have hm37 := ((hm3.trans (.of_below hI)).trans hm6).trans (.of_below h7)
            have ht7 : TapeO w7 (Star w T (w.heap.size + 1)) (.pointer tp) (addT (.pointer tp) evs (evsM 0 (rs.take (k + 1)))) := by
              rw [← HEV2.out]
              refine (ht6.next h7).imp fun g hg => ?_
              rcases hg with (hg | hg) | hg
              · exact hg.1
              · exact .inr (by omega)
              · exact .inr (by omega)
            have hL7 := hLp.step (moved_mix h0 hm37) ht7
            have u0 := (h7.cell (p := ⟨B, 0, none⟩) (Nat.lt_of_lt_of_le hB3 (Nat.le_trans hs3 hs6))).trans ((hm6.cell (p := ⟨B, 0, none⟩) (Nat.lt_of_lt_of_le hB3 hs3) hoff).trans ((hI.cell (p := ⟨B, 0, none⟩) hB3).trans j0))
            clear j0 j1 j2 y0 y1 ht5 ht6 ht7 ht4
            cases d with
            | true =>
              have HO2 := Lib.hid (mk_or zd z)
              go_wp2
              go_roundw
              case rel => exact ⟨k + 1, za, zd || z, by go_num, by rw [← HN.out]; omega, rfl, by rw [← HO2.out, ← HZN.out]; rfl, by rw [HAs2.out]; simp, by rw [HDs2.out]; simp, hL7⟩
              case measure => simp [intOf]; omega
            | false =>
              have HO2 := Lib.hid (mk_or za z)
              go_wp2
              go_roundw
              case rel => exact ⟨k + 1, za || z, zd, by go_num, by rw [← HN.out]; omega, by rw [← HO2.out, ← HZN.out]; rfl, rfl, by rw [HAs2.out]; simp, by rw [HDs2.out]; simp, hL7⟩
              case measure => simp [intOf]; omega
      · have HE := Lib.hid (show rs.take k = rs from List.take_of_length_le (by rw [← HN.out]; omega))
        have HR2 := Lib.hid (show (!zd && za) = r by rw [← HZA.out, ← HZD.out, HE.out, HR.out])
        have hout := hLp.out
        rw [HE.out] at hout
        have HAN := Lib.hid (and_not za zd)
        have hmr := hLp.moved
        clear hLp ha
        go_wp2
        go_ret
        exact ⟨by rw [← HR2.out, ← HAN.out]; rfl, hout, hmr⟩
  · have HR := Lib.hid (show r = false by rw [← hr]; exact member_no (by rw [hck]; exact e0) p)
    have hE : memberFE rs = [] := by unfold memberFE; rw [if_neg (by rw [hck]; exact e0)]
    rw [hE, addT_nil ht]
    have d0 : (ck != 0) = true := by rw [bne_iff_ne]; exact e0
    have ha0 := ha.next hb0
    clear hr hn hck ht hE hg e0 ha hz0 hs0 hbp
    go_enter Tryz.func41, Tryz.ntmps41
    go_upto_region 1 with (fail)
    rw [← HW0.out, ← Hbp.out]
    go_wp2_with (fail)
    refine (fenceCheck_c A n c rs ck Q W0 ha0 HSv.out HN.out hl HC.out).mono ?_
    rintro e w1 ⟨rfl, h1⟩
    have h2 := hb0.trans (h1.mono hb0.size)
    go_wp2
    go_ret
    exact ⟨by rw [HR.out]; rfl, (HT.out.next h2).imp fun g hg => .inl hg, .of_below h2⟩
end Go.Proofs.YthmkllpdkcmccaaGreatDoor
namespace Go.Proofs.YthmkllpdkcmccaaGreatDoor
open Go.RowKit Go.Maps
set_option maxRecDepth 100000
set_option linter.unusedVariables false
set_option linter.unusedSimpArgs false

end Go.Proofs.YthmkllpdkcmccaaGreatDoor
namespace Go.Proofs.YthmkllpdkcmccaaGreatDoor

/-- A header: of each region whether it denies, and its vertices' number. -/
structure Hq where
  op : Int
  vs : Int
  ks : List (Bool × Int)
  pts : Int
  deriving DecidableEq
def rgK (r : Rg) : Bool × Int := (r.d, r.v)
/-- Whether a region has points. -/
def rgP (rs : List Rg) : Bool := rs.any fun r => decide (0 < r.l.length)
/-- Numbers of a byte. -/
def UB (l : List Int) : Prop := ∀ x ∈ l, 0 ≤ x ∧ x < 256
theorem UB.dgt {l : List Int} (h : UB l) (k : Nat) : 0 ≤ dgt l k ∧ dgt l k < 256 := by
  by_cases hk : k < l.length
  · rw [dgt_lt hk]; exact h _ (List.getElem_mem hk)
  · unfold Go.Proofs.YthmkllpdkcmccaaGreatDoor.dgt
    rw [List.getD_eq_getElem?_getD, List.getElem?_eq_none (by omega)]; simp
theorem UB.nil : UB [] := by intro x h; cases h
theorem UB.take {l : List Int} (h : UB l) (n : Nat) : UB (l.take n) := fun x hx => h x (List.mem_of_mem_take hx)
def rgB (k : Bool × Int) : Int := if k.1 then k.2 + 128 else k.2
theorem wrap_u8' {x : Int} (h1 : 0 ≤ x) (h2 : x < 256) : IntKind.u8.wrap x = x := by simp [IntKind.wrap, IntKind.signed, IntKind.bits]; omega
def anyBad (ks : List (Bool × Int)) : Bool := ks.any fun k => decide (sizeF k.2 = 0)
/-- What Format says: the error, the bytes. -/
def unusedH (h : Hq) : Bool := (!decide (h.op = 3) && !decide (h.vs = 0)) || (decide (h.op < 4) && decide (0 < h.ks.length)) || (!decide (h.op = 5) && !decide (h.pts = 0))
def formErr (h : Hq) (p : Bool) : Int :=
  if h.op < 1 ∨ 5 < h.op then 5
  else if h.op = 3 ∧ (h.vs < 3 ∨ 64 < h.vs) then 6
  else if 4 ≤ h.op ∧ ((h.ks.length : Int) < 1 ∨ 64 < (h.ks.length : Int)) then 6
  else if 4 ≤ h.op ∧ anyBad h.ks = true then 7
  else if h.op = 5 ∧ (h.pts < 1 ∨ 4096 < h.pts) then 6
  else if unusedH h = true then 2
  else if p = true then 2 else 0
def formB (h : Hq) : List Int :=
  [h.op] ++ (if h.op = 3 then [h.vs] else []) ++ (if 4 ≤ h.op then [(h.ks.length : Int)] else []) ++ h.ks.map rgB ++ (if h.op = 5 then [h.pts % 256, h.pts / 256] else [])
/-! ### What an accepted header is like -/
structure Okh (h : Hq) : Prop where
  op : 1 ≤ h.op ∧ h.op ≤ 5
  vs3 : h.op = 3 → 3 ≤ h.vs ∧ h.vs ≤ 64
  len : 4 ≤ h.op → 1 ≤ h.ks.length ∧ h.ks.length ≤ 64
  ok : 4 ≤ h.op → anyBad h.ks = false
  pts5 : h.op = 5 → 1 ≤ h.pts ∧ h.pts ≤ 4096
  vs0 : h.op ≠ 3 → h.vs = 0
  len0 : h.op < 4 → h.ks = []
  pts0 : h.op ≠ 5 → h.pts = 0
theorem unused_iff (h : Hq) : unusedH h = false ↔ (h.op ≠ 3 → h.vs = 0) ∧ (h.op < 4 → h.ks.length = 0) ∧ (h.op ≠ 5 → h.pts = 0) := by
  unfold unusedH
  simp only [Bool.or_eq_false_iff, Bool.and_eq_false_iff, Bool.not_eq_false', decide_eq_true_eq, decide_eq_false_iff_not]
  omega
theorem formErr_ok {h : Hq} {p : Bool} : formErr h p = 0 ↔ Okh h ∧ p = false := by
  unfold formErr
  constructor
  · intro e
    split at e; · omega
    split at e; · omega
    split at e; · omega
    split at e; · omega
    split at e; · omega
    split at e; · omega
    split at e; · omega
    rename_i h1 h2 h3 h4 h5 h6 h7
    have hu := (unused_iff h).1 (by simpa using h6)
    refine ⟨⟨by omega, by omega, by omega, fun h8 => ?_, by omega, hu.1, fun h8 => List.length_eq_zero_iff.1 (hu.2.1 h8), hu.2.2⟩, by simpa using h7⟩
    by_cases hb : anyBad h.ks = true
    · exact absurd ⟨h8, hb⟩ h4
    · simpa using hb
  · rintro ⟨k, rfl⟩
    have hu : unusedH h = false := (unused_iff h).2 ⟨k.vs0, fun h8 => by rw [k.len0 h8]; rfl, k.pts0⟩
    have := k.op
    rw [if_neg (by omega), if_neg (fun h => by have := k.vs3 h.1; omega), if_neg (fun h => by have := k.len h.1; omega), if_neg (fun h => by rw [k.ok h.1] at h; simp at h), if_neg (fun h => by have := k.pts5 h.1; omega), if_neg (by rw [hu]; simp)]
    rfl
theorem badK {ks : List (Bool × Int)} (h : anyBad ks = false) : ∀ k ∈ ks, k.2 = 0 ∨ 3 ≤ k.2 ∧ k.2 ≤ 64 := by
  intro k hk
  have h1 : sizeF k.2 ≠ 0 := fun e => by
    have : anyBad ks = true := List.any_eq_true.2 ⟨k, hk, by simpa using e⟩
    rw [h] at this; cases this
  unfold sizeF at h1
  by_cases h2 : k.2 = 0
  · exact .inl h2
  · rw [if_neg h2] at h1
    by_cases h3 : 3 ≤ k.2 ∧ k.2 ≤ 64
    · exact .inr h3
    · rw [if_neg h3] at h1; exact absurd rfl h1
/-! ### The three shapes of a header -/
theorem form12 {h : Hq} (k : Okh h) (h1 : h.op < 3) : formB h = [h.op] ∧ h = ⟨h.op, 0, [], 0⟩ := by
  have e1 := k.len0 (by omega)
  have e2 := k.vs0 (by omega)
  have e3 := k.pts0 (by omega)
  constructor
  · unfold formB; rw [e1, if_neg (by omega), if_neg (by omega), if_neg (by omega)]; rfl
  · obtain ⟨a, b, c, d⟩ := h; simp only at e1 e2 e3; rw [e1, e2, e3]
theorem form3 {h : Hq} (k : Okh h) (h1 : h.op = 3) : formB h = [3, h.vs] ∧ h = ⟨3, h.vs, [], 0⟩ := by
  have e1 := k.len0 (by omega)
  have e3 := k.pts0 (by omega)
  constructor
  · unfold formB; rw [e1, if_pos h1, if_neg (by omega), if_neg (by omega), h1]; rfl
  · obtain ⟨a, b, c, d⟩ := h; simp only at e1 e3 h1; rw [e1, e3, h1]
theorem form4 {h : Hq} (k : Okh h) (h1 : h.op = 4) : formB h = 4 :: (h.ks.length : Int) :: h.ks.map rgB ∧ h = ⟨4, 0, h.ks, 0⟩ := by
  have e1 := k.vs0 (by omega)
  have e3 := k.pts0 (by omega)
  constructor
  · unfold formB; rw [if_neg (by omega), if_pos (by omega), if_neg (by omega), h1]; simp
  · obtain ⟨a, b, c, d⟩ := h; simp only at e1 e3 h1; rw [e1, e3, h1]
theorem form5 {h : Hq} (k : Okh h) (h1 : h.op = 5) : formB h = 5 :: (h.ks.length : Int) :: (h.ks.map rgB ++ [h.pts % 256, h.pts / 256]) ∧ h = ⟨5, 0, h.ks, h.pts⟩ := by
  have e1 := k.vs0 (by omega)
  constructor
  · unfold formB; rw [if_neg (by omega), if_pos (by omega), if_pos h1, h1]; simp
  · obtain ⟨a, b, c, d⟩ := h; simp only at e1 h1; rw [e1, h1]
theorem formB_len {h : Hq} (k : Okh h) : 1 ≤ (formB h).length ∧ (formB h).length ≤ 68 := by
  have h0 := k.op
  by_cases h1 : h.op < 3
  · rw [(form12 k h1).1]; simp
  · by_cases h3 : h.op = 3
    · rw [(form3 k h3).1]; simp
    · have := k.len (by omega)
      by_cases h4 : h.op = 4
      · rw [(form4 k h4).1]; simp; omega
      · rw [(form5 k (by omega)).1]; simp; omega
/-! ### Parse inverts Format -/
end Go.Proofs.YthmkllpdkcmccaaGreatDoor
namespace Go.Proofs.YthmkllpdkcmccaaGreatDoor
open Go.RowKit Go.Maps
set_option maxRecDepth 100000
set_option linter.unusedVariables false
set_option linter.unusedSimpArgs false

end Go.Proofs.YthmkllpdkcmccaaGreatDoor
namespace Go.Proofs.YthmkllpdkcmccaaGreatDoor

/-! ### Numbers -/
/-- The lowest bytes of a number, the least significant one first. -/
def digs : Nat → Int → List Int
  | 0, _ => []
  | k + 1, x => x % 256 :: digs k (x / 256)
/-- The number of which these are the bytes. -/
def wv : List Int → Int
  | [] => 0
  | d :: r => d + 256 * wv r
theorem digs_len : ∀ (k : Nat) (x : Int), (digs k x).length = k
  | 0, _ => rfl
  | k + 1, x => by show (digs k (x / 256)).length + 1 = _; rw [digs_len k]
def shr : Nat → Int → Int
  | 0, x => x
  | k + 1, x => shr k (x / 256)
theorem shr_succ : ∀ (k : Nat) (x : Int), shr (k + 1) x = shr k x / 256
  | 0, _ => rfl
  | k + 1, x => by show shr (k + 1) (x / 256) = shr k (x / 256) / 256; exact shr_succ k _
theorem digs_snoc : ∀ (k : Nat) (x : Int), digs (k + 1) x = digs k x ++ [shr k x % 256]
  | 0, _ => rfl
  | k + 1, x => by
    show x % 256 :: digs (k + 1) (x / 256) = x % 256 :: (digs k (x / 256) ++ [shr k (x / 256) % 256])
    rw [digs_snoc k]
theorem shr_U : ∀ (k : Nat) {x : Int}, U x → U (shr k x)
  | 0, _, h => h
  | k + 1, x, h => shr_U k (by unfold U at *; omega)
/-- Two's complement. -/
def toU (x : Int) : Int := x % 18446744073709551616
theorem toU_U (x : Int) : U (toU x) := by unfold toU U; omega
/-! ### Points and queries -/
structure Qr where
  p : Pt
  id : Int
  deriving DecidableEq
def ptB (p : Pt) : List Int := digs 8 (toU p.x) ++ digs 8 (toU p.y)
def qrB (q : Qr) : List Int := ptB q.p ++ digs 8 q.id
theorem ptB_len (p : Pt) : (ptB p).length = 16 := by unfold ptB; rw [List.length_append, digs_len, digs_len]
theorem qrB_len (q : Qr) : (qrB q).length = 24 := by unfold qrB; rw [List.length_append, ptB_len, digs_len]
/-! ### Lists of things of one length -/
end Go.Proofs.YthmkllpdkcmccaaGreatDoor
