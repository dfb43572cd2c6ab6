/-
  The contracts of package disc over the landed code.
-/
import Derived.Test.YtehnpmkolabiaaaDoorDiscA
import Derived.BigQuiet
import Derived.Deep.QuietTactic
import Derived.Deep.RegionLaw
namespace Go.Proofs.YtehnpmkolabiaaaDoor
open Go.RowKit Go.Maps
set_option maxRecDepth 100000
set_option linter.unusedVariables false
set_option linter.unusedSimpArgs false

/-- Six cells of a block are written. -/
def six (w : World) (b : Nat) (v0 v1 v2 v3 v4 v5 : Value) : World := (((((w.setCell ⟨b, 0, none⟩ v0).setCell ⟨b, 1, none⟩ v1).setCell ⟨b, 2, none⟩ v2).setCell ⟨b, 3, none⟩ v3).setCell ⟨b, 4, none⟩ v4).setCell ⟨b, 5, none⟩ v5
theorem set_at {w : World} {b : Nat} {cs : Array Value} {t : TypeId} (h : w.heap[b]? = some (.cells cs t (0, 0))) (k : Nat) (v : Value) : (w.setCell ⟨b, k, none⟩ v).heap[b]? = some (.cells (cs.setIfInBounds k v) t (0, 0)) := by
  show (w.heap.modify b _)[b]? = _
  rw [Array.getElem?_modify, if_pos rfl, h]
  rfl
theorem six_block {w : World} {b : Nat} {u0 u1 u2 u3 u4 u5 : Value} {t : TypeId} (h : w.heap[b]? = some (.cells #[u0, u1, u2, u3, u4, u5] t (0, 0))) (v0 v1 v2 v3 v4 v5 : Value) : (six w b v0 v1 v2 v3 v4 v5).heap[b]? = some (.cells #[v0, v1, v2, v3, v4, v5] t (0, 0)) :=
  set_at (set_at (set_at (set_at (set_at (set_at h 0 v0) 1 v1) 2 v2) 3 v3) 4 v4) 5 v5
theorem six_below {B b : Nat} {w0 w : World} (h : Below B w0 w) (hb : B ≤ b) (v0 v1 v2 v3 v4 v5 : Value) : Below B w0 (six w b v0 v1 v2 v3 v4 v5) :=
  (((((h.setCell (p := ⟨b, 0, none⟩) hb v0).setCell (p := ⟨b, 1, none⟩) hb v1).setCell (p := ⟨b, 2, none⟩) hb v2).setCell (p := ⟨b, 3, none⟩) hb v3).setCell (p := ⟨b, 4, none⟩) hb v4).setCell (p := ⟨b, 5, none⟩) hb v5
theorem six_cells {w : World} {b : Nat} {v0 v1 v2 v3 v4 v5 : Value} {t : TypeId} (h : w.heap[b]? = some (.cells #[v0, v1, v2, v3, v4, v5] t (0, 0))) :
    w.cell? ⟨b, 0, none⟩ = some v0 ∧ w.cell? ⟨b, 1, none⟩ = some v1 ∧ w.cell? ⟨b, 2, none⟩ = some v2 ∧ w.cell? ⟨b, 3, none⟩ = some v3 ∧ w.cell? ⟨b, 4, none⟩ = some v4 ∧ w.cell? ⟨b, 5, none⟩ = some v5 := by
  refine ⟨?_, ?_, ?_, ?_, ?_, ?_⟩ <;> simp [World.cell?, h]
theorem block_frozen {w : World} {b : Nat} {cs : Array Value} {t : TypeId} (h : w.heap[b]? = some (.cells cs t (0, 0))) (o : Nat) : w.frozen? ⟨b, o, none⟩ = false := by simp [World.frozen?, h]
set_option maxHeartbeats 1000000 in
theorem boundary_yes (w : World) (A : Option Addr) (c : Nat) (X0 X1 X2 : Pt) (Q : Nat → Prop) (ha : RowR w Q 2 ptC A [X0, X1, X2]) :
    Calls Tryd.prog 18 #[.slice A 3 c] w fun e w' => e = .returned (.tuple #[.agg #[.int .i64 X0.x, .int .i64 X0.y, .int .i64 X1.x, .int .i64 X1.y, .int .i64 X2.x, .int .i64 X2.y], .bool true]) ∧ Below w.heap.size w w' := by
  obtain ⟨W, hW⟩ : ∃ W, W = w.alloc (.cells #[.int .i64 0, .int .i64 0, .int .i64 0, .int .i64 0, .int .i64 0, .int .i64 0] 40) := ⟨_, rfl⟩
  have h0 : Below w.heap.size w W := by rw [hW]; exact (Below.refl _ _).alloc (Nat.le_refl _) _
  obtain ⟨W2, hcp, hb2, hlt2, hown2⟩ := copy3 (t := 40) W A c [X0, X1, X2] Q (ha.next h0) rfl
  obtain ⟨bx, hbx⟩ : ∃ bx, bx = w.heap.size := ⟨_, rfl⟩
  have hsz : W.heap.size = w.heap.size + 1 := by rw [hW]; simp
  have y0 : W2.cell? ⟨W.heap.size, 0, none⟩ = some (.int .i64 X0.x) := World.ownsRow.cellAt hown2 0 (by decide)
  have y1 : W2.cell? ⟨W.heap.size, 1, none⟩ = some (.int .i64 X0.y) := World.ownsRow.cellAt hown2 1 (by decide)
  have y2 : W2.cell? ⟨W.heap.size, 2, none⟩ = some (.int .i64 X1.x) := World.ownsRow.cellAt hown2 2 (by decide)
  have y3 : W2.cell? ⟨W.heap.size, 3, none⟩ = some (.int .i64 X1.y) := World.ownsRow.cellAt hown2 3 (by decide)
  have y4 : W2.cell? ⟨W.heap.size, 4, none⟩ = some (.int .i64 X2.x) := World.ownsRow.cellAt hown2 4 (by decide)
  have y5 : W2.cell? ⟨W.heap.size, 5, none⟩ = some (.int .i64 X2.y) := World.ownsRow.cellAt hown2 5 (by decide)
  have hb : bx < W.heap.size := by omega
  have hk0 : W.heap[bx]? = some (.cells #[.int .i64 0, .int .i64 0, .int .i64 0, .int .i64 0, .int .i64 0, .int .i64 0] 40 (0, 0)) := by rw [hW, hbx]; exact heap_alloc_new w _
  have hk : W2.heap[bx]? = some (.cells #[.int .i64 0, .int .i64 0, .int .i64 0, .int .i64 0, .int .i64 0, .int .i64 0] 40 (0, 0)) := (hb2.block _ hb).trans hk0
  obtain ⟨z0, z1, z2, z3, z4, z5⟩ := six_cells hk
  have f0 := block_frozen hk
  have h2 := h0.trans (hb2.mono h0.size)
  have h3 := six_below h2 (show w.heap.size ≤ bx by omega) (.int .i64 X0.x) (.int .i64 X0.y) (.int .i64 X1.x) (.int .i64 X1.y) (.int .i64 X2.x) (.int .i64 X2.y)
  obtain ⟨W3, hW3⟩ : ∃ W3, W3 = six W2 bx (.int .i64 X0.x) (.int .i64 X0.y) (.int .i64 X1.x) (.int .i64 X1.y) (.int .i64 X2.x) (.int .i64 X2.y) := ⟨_, rfl⟩
  obtain ⟨e0, e1, e2, e3, e4, e5⟩ := six_cells (six_block hk (.int .i64 X0.x) (.int .i64 X0.y) (.int .i64 X1.x) (.int .i64 X1.y) (.int .i64 X2.x) (.int .i64 X2.y))
  rw [← hW3] at e0 e1 e2 e3 e4 e5 h3
  have HW := Lib.hid hW
  have HW3 := Lib.hid hW3
  have HB := Lib.hid hbx
  have HN : Hid (bx ≠ W.heap.size) := Lib.hid (by omega)
  have hne := HN.out
  have hne' : W.heap.size ≠ bx := fun h => HN.out h.symm
  clear ha hown2 hsz hW hbx hW3
  go_enter Tryd.func18, Tryd.ntmps18
  go_upto_region 1 with (fail)
  rw [← HW.out, ← HB.out]
  go_wp2_with (first | (refine wpList_copy_runI _ rfl _ _ 22 22 rfl _ _ rfl rfl (hcp _) ?_))
  change bodyPost _ _ _ _ _ (six W2 bx (.int .i64 X0.x) (.int .i64 X0.y) (.int .i64 X1.x) (.int .i64 X1.y) (.int .i64 X2.x) (.int .i64 X2.y))
  rw [← HW3.out]
  exact bodyPost_ret (v := .tuple #[.agg #[.int .i64 X0.x, .int .i64 X0.y, .int .i64 X1.x, .int .i64 X1.y, .int .i64 X2.x, .int .i64 X2.y], .bool true]) (by simp [results, Tryd.results18, go_sem, e0, e1, e2, e3, e4, e5]) rfl ⟨rfl, h3⟩
set_option maxHeartbeats 1000000 in
theorem boundary_no (w : World) (A : Option Addr) (n c : Nat) (hn : ¬ n = 3) :
    Calls Tryd.prog 18 #[.slice A n c] w fun e w' => e = .returned (.tuple #[.agg #[.int .i64 0, .int .i64 0, .int .i64 0, .int .i64 0, .int .i64 0, .int .i64 0], .bool false]) ∧ Below w.heap.size w w' := by
  obtain ⟨W, hW⟩ : ∃ W, W = (w.alloc (.cells #[.int .i64 0, .int .i64 0, .int .i64 0, .int .i64 0, .int .i64 0, .int .i64 0] 40)).alloc (.cells #[.int .i64 0, .int .i64 0, .int .i64 0, .int .i64 0, .int .i64 0, .int .i64 0] 40) := ⟨_, rfl⟩
  have h0 : Below w.heap.size w W := by rw [hW]; exact ((Below.refl _ _).alloc (Nat.le_refl _) _).alloc (by simp) _
  obtain ⟨bx, hbx⟩ : ∃ bx, bx = w.heap.size := ⟨_, rfl⟩
  have hk : W.heap[bx]? = some (.cells #[.int .i64 0, .int .i64 0, .int .i64 0, .int .i64 0, .int .i64 0, .int .i64 0] 40 (0, 0)) := by rw [hW, hbx]; exact ((Below.refl _ (w.alloc (.cells #[.int .i64 0, .int .i64 0, .int .i64 0, .int .i64 0, .int .i64 0, .int .i64 0] 40))).alloc (Nat.le_refl _) _ : Below _ _ _).block _ (by simp) |>.trans (heap_alloc_new w _)
  have hk1 : W.heap[bx + 1]? = some (.cells #[.int .i64 0, .int .i64 0, .int .i64 0, .int .i64 0, .int .i64 0, .int .i64 0] 40 (0, 0)) := by rw [hW, hbx]; have := heap_alloc_new (w.alloc (.cells #[.int .i64 0, .int .i64 0, .int .i64 0, .int .i64 0, .int .i64 0, .int .i64 0] 40)) (.cells #[.int .i64 0, .int .i64 0, .int .i64 0, .int .i64 0, .int .i64 0, .int .i64 0] 40); simpa using this
  obtain ⟨y0, y1, y2, y3, y4, y5⟩ := six_cells hk1
  obtain ⟨z0, z1, z2, z3, z4, z5⟩ := six_cells hk
  have f0 := block_frozen hk
  have h3 := six_below h0 (show w.heap.size ≤ bx by omega) (.int .i64 0) (.int .i64 0) (.int .i64 0) (.int .i64 0) (.int .i64 0) (.int .i64 0)
  obtain ⟨W3, hW3⟩ : ∃ W3, W3 = six W bx (.int .i64 0) (.int .i64 0) (.int .i64 0) (.int .i64 0) (.int .i64 0) (.int .i64 0) := ⟨_, rfl⟩
  obtain ⟨e0, e1, e2, e3, e4, e5⟩ := six_cells (six_block hk (.int .i64 0) (.int .i64 0) (.int .i64 0) (.int .i64 0) (.int .i64 0) (.int .i64 0))
  rw [← hW3] at e0 e1 e2 e3 e4 e5 h3
  have HW := Lib.hid hW
  have HW3 := Lib.hid hW3
  have HB := Lib.hid hbx
  have hd : ((n : Int) != 3) = true := by rw [bne_iff_ne]; omega
  clear hW hbx hW3
  go_enter Tryd.func18, Tryd.ntmps18
  go_upto_region 2 with (fail)
  rw [← HW.out, ← HB.out]
  go_wp2
  change bodyPost _ _ _ _ _ (six W bx (.int .i64 0) (.int .i64 0) (.int .i64 0) (.int .i64 0) (.int .i64 0) (.int .i64 0))
  rw [← HW3.out]
  exact bodyPost_ret (v := .tuple #[.agg #[.int .i64 0, .int .i64 0, .int .i64 0, .int .i64 0, .int .i64 0, .int .i64 0], .bool false]) (by simp [results, Tryd.results18, go_sem, e0, e1, e2, e3, e4, e5]) rfl ⟨rfl, h3⟩
set_option maxHeartbeats 1000000 in
theorem discValid_c (tv : Value) (evs : List Ev) (T Q : Nat → Prop) (A : Option Addr) (n c : Nat) (l : List Pt) (r : Bool) (w : World) (hw : ∀ W, Moved T w W → Wts W) (ht : TapeO w T tv evs) (he : evs.length ≤ 990000) (ha : RowR w Q 2 ptC A l) (hQT : ∀ b, Q b → ¬ T b) (hn : n = l.length) (hS : SsP l) (hr : validD l = r) :
    Calls Tryd.prog 10 #[tv, .slice A n c] w fun e w' => e = .returned (.int .u64 (mk r)) ∧ TapeO w' (fun g => T g ∨ w.heap.size ≤ g) tv (addT tv evs (validDE n)) ∧ Moved T w w' := by
  obtain ⟨W, hW⟩ : ∃ W, W = w := ⟨_, rfl⟩
  have h0 : Below w.heap.size w W := by rw [hW]; exact Below.refl _ _
  have HW := Lib.hid hW
  have HA := ha.next h0
  clear hW
  by_cases h3 : n = 3
  · subst h3
    obtain ⟨X0, X1, X2, rfl⟩ : ∃ X0 X1 X2, l = [X0, X1, X2] := by
      match l, hn.symm with
      | [a, b, d], _ => exact ⟨a, b, d, rfl⟩
    have HPs := Lib.hid (hS X0 (by simp))
    have HQs := Lib.hid (hS X1 (by simp))
    have HXs := Lib.hid (hS X2 (by simp))
    have HR0 := Lib.hid (show (!decide (sgnP X0 X1 X2 = 0)) = r by rw [← hr]; show _ = (true && (sgnP X0 X1 X2 != 0)); rw [Bool.true_and]; by_cases h : sgnP X0 X1 X2 = 0 <;> simp [h])
    have HT := Lib.hid ht
    clear ht hS hr hn ha
    go_enter Tryd.func10, Tryd.ntmps10
    go_upto_region 1 with (fail)
    rw [← HW.out]
    go_wp2_with (fail)
    refine (boundary_yes W A c X0 X1 X2 Q HA).mono ?_
    rintro e w1 ⟨rfl, h1⟩
    obtain ⟨W2, hW2⟩ : ∃ W2, W2 = w1.alloc (.cells #[.int .i64 X0.x, .int .i64 X0.y, .int .i64 X1.x, .int .i64 X1.y, .int .i64 X2.x, .int .i64 X2.y] 40) := ⟨_, rfl⟩
    have hk1 := heap_alloc_new w1 (.cells #[.int .i64 0, .int .i64 0, .int .i64 0, .int .i64 0, .int .i64 0, .int .i64 0] 40)
    obtain ⟨z0, z1, z2, z3, z4, z5⟩ := six_cells hk1
    have f0 := block_frozen hk1
    have h2 : Below w.heap.size w W2 := by
      rw [hW2]
      exact (h0.trans (h1.mono h0.size)).alloc (Nat.le_trans h0.size h1.size) _
    have hbk2 : W2.heap[w1.heap.size]? = some (.cells #[.int .i64 X0.x, .int .i64 X0.y, .int .i64 X1.x, .int .i64 X1.y, .int .i64 X2.x, .int .i64 X2.y] 40 (0, 0)) := by rw [hW2]; exact heap_alloc_new w1 _
    have hw12 : Below w1.heap.size w1 W2 := by rw [hW2]; exact (Below.refl _ _).alloc (Nat.le_refl _) _
    have hl2 : w1.heap.size < W2.heap.size := (Array.getElem?_eq_some_iff.1 hbk2).1
    have HT2 := Lib.hid (tape_mix HT.out h2)
    have HW2 := Lib.hid hW2
    clear hW2
    go_wp2_with (fail)
    rw [← HW2.out]
    refine (noteO_any tv evs _ 4 0 2 W2 HT2.out (by omega) (by decide) (fun g hg => .inr hg)).mono ?_
    rintro e w3 ⟨rfl, ht3, hm3⟩
    have hm := moved_mix h2 hm3
    have hwt := hw w3 hm
    have hkeep : ∀ (k : Nat) (b : Nat), w.heap.size ≤ b → b < W2.heap.size → w3.cell? ⟨b, k, none⟩ = W2.cell? ⟨b, k, none⟩ := fun k b h1 h4 => hm3.cell (p := ⟨b, k, none⟩) h4 (fun h => h.elim (fun h => by have h5 : b < w.heap.size := h.2; omega) (fun h => by have h5 : W2.heap.size ≤ b := h; omega))
    obtain ⟨q0, q1, q2, q3, q4, q5⟩ := six_cells hbk2
    have hws1 : w.heap.size ≤ w1.heap.size := Nat.le_trans h0.size h1.size
    have y0 := (hkeep 0 w1.heap.size hws1 hl2).trans q0
    have y1 := (hkeep (0 + 1) w1.heap.size hws1 hl2).trans q1
    have y2 := (hkeep 2 w1.heap.size hws1 hl2).trans q2
    have y3 := (hkeep (2 + 1) w1.heap.size hws1 hl2).trans q3
    have y4 := (hkeep (2 * 2) w1.heap.size hws1 hl2).trans q4
    have y5 := (hkeep (2 * 2 + 1) w1.heap.size hws1 hl2).trans q5
    clear z0 z1 z2 z3 z4 z5 f0 hk1 q0 q1 q2 q3 q4 q5 hkeep hbk2
    go_wp2_with (fail)
    obtain ⟨m, hm0⟩ : ∃ m, mk (decide (sgnP X0 X1 X2 = 0)) = m := ⟨_, rfl⟩
    refine (orCol_d X0 X1 X2 w3 hwt HPs.out HQs.out HXs.out m hm0).mono ?_
    rintro e w9 ⟨rfl, h9⟩
    have HX := Lib.hid (show bits .xor .u64 18446744073709551615 m = mk r by rw [← hm0, xor_mk, HR0.out])
    clear hm0
    have hT9 : TapeO w9 (fun g => T g ∨ w.heap.size ≤ g) tv (addT tv evs [⟨4, 0, 2⟩]) := (ht3.next h9).imp fun g hg => by rcases hg with hg | hg; exact .inl hg.1; exact .inr (by have := h2.size; omega)
    have hm9 : Moved T w w9 := hm.trans (.of_below h9)
    go_wp2
    go_ret
    exact ⟨by rw [← HX.out]; rfl, hT9, hm9⟩
  · have HR := Lib.hid (show r = false by rw [← hr]; exact validD_no (by omega))
    have hE := Lib.hid (show validDE n = [] by unfold validDE; rw [if_neg h3])
    have HT := Lib.hid ht
    rw [hE.out]
    have H3 := Lib.hid h3
    clear hr hn ha hS h3 ht
    go_enter Tryd.func10, Tryd.ntmps10
    go_upto_region 1 with (fail)
    rw [← HW.out]
    go_wp2_with (fail)
    refine (boundary_no W A n c H3.out).mono ?_
    rintro e w1 ⟨rfl, h1⟩
    obtain ⟨W2, hW2⟩ : ∃ W2, W2 = w1.alloc (.cells #[.int .i64 0, .int .i64 0, .int .i64 0, .int .i64 0, .int .i64 0, .int .i64 0] 40) := ⟨_, rfl⟩
    have hk1 := heap_alloc_new w1 (.cells #[.int .i64 0, .int .i64 0, .int .i64 0, .int .i64 0, .int .i64 0, .int .i64 0] 40)
    obtain ⟨z0, z1, z2, z3, z4, z5⟩ := six_cells hk1
    have f0 := block_frozen hk1
    have h2 : Below w.heap.size w W2 := by
      rw [hW2]
      exact (h0.trans (h1.mono h0.size)).alloc (Nat.le_trans h0.size h1.size) _
    have HW2 := Lib.hid hW2
    clear hW2
    go_wp2
    rw [← HW2.out]
    go_ret
    exact ⟨by rw [HR.out]; rfl, by rw [addT_nil HT.out]; exact (HT.out.next h2).imp fun g hg => .inl hg, .of_below h2⟩
set_option maxHeartbeats 1000000 in
theorem discLocate_c (tv : Value) (evs : List Ev) (T Q : Nat → Prop) (A : Option Addr) (n c : Nat) (l : List Pt) (p : Pt) (r : Int) (w : World) (hw : ∀ W, Moved T w W → Wts W) (ht : TapeO w T tv evs) (he : evs.length ≤ 990000) (ha : RowR w Q 2 ptC A l) (hQT : ∀ b, Q b → ¬ T b) (hn : n = l.length) (hS : SsP l) (hp : S p.x ∧ S p.y) (hr : locD l p = r) :
    Calls Tryd.prog 13 #[tv, .slice A n c, .agg #[.int .i64 p.x, .int .i64 p.y]] w fun e w' => e = .returned (.int .i64 r) ∧ TapeO w' (fun g => T g ∨ w.heap.size ≤ g) tv (addT tv evs (locDE n)) ∧ Moved T w w' := by
  obtain ⟨W, hW⟩ : ∃ W, W = w.alloc (.cells #[.int .i64 p.x, .int .i64 p.y] 24) := ⟨_, rfl⟩
  obtain ⟨bp, hbp⟩ : ∃ bp, bp = w.heap.size := ⟨_, rfl⟩
  have h0 : Below w.heap.size w W := by rw [hW]; exact (Below.refl _ _).alloc (Nat.le_refl _) _
  have kp0 : W.cell? ⟨bp, 0, none⟩ = some (.int .i64 p.x) := by rw [hW, hbp]; simp [go_sem]
  have kp1 : W.cell? ⟨bp, 1, none⟩ = some (.int .i64 p.y) := by rw [hW, hbp]; simp [go_sem]
  have hbW : bp < W.heap.size := lt_of_cell kp0
  have hbs : w.heap.size ≤ bp := by omega
  have HW := Lib.hid hW
  have HB := Lib.hid hbp
  have HP := Lib.hid hp
  have HA := ha.next h0
  clear hW hbp hp
  by_cases h3 : n = 3
  · subst h3
    obtain ⟨X0, X1, X2, rfl⟩ : ∃ X0 X1 X2, l = [X0, X1, X2] := by
      match l, hn.symm with
      | [a, b, d], _ => exact ⟨a, b, d, rfl⟩
    have HPs := Lib.hid (hS X0 (by simp))
    have HQs := Lib.hid (hS X1 (by simp))
    have HXs := Lib.hid (hS X2 (by simp))
    have HR0 := Lib.hid (show sideC X0 X1 X2 p = r from hr)
    have HT := Lib.hid ht
    clear ht hS hr hn ha
    go_enter Tryd.func13, Tryd.ntmps13
    go_upto_region 1 with (fail)
    rw [← HW.out, ← HB.out]
    go_wp2_with (fail)
    refine (boundary_yes W A c X0 X1 X2 Q HA).mono ?_
    rintro e w1 ⟨rfl, h1⟩
    obtain ⟨W2, hW2⟩ : ∃ W2, W2 = w1.alloc (.cells #[.int .i64 X0.x, .int .i64 X0.y, .int .i64 X1.x, .int .i64 X1.y, .int .i64 X2.x, .int .i64 X2.y] 40) := ⟨_, rfl⟩
    have hk1 := heap_alloc_new w1 (.cells #[.int .i64 0, .int .i64 0, .int .i64 0, .int .i64 0, .int .i64 0, .int .i64 0] 40)
    obtain ⟨z0, z1, z2, z3, z4, z5⟩ := six_cells hk1
    have f0 := block_frozen hk1
    have h2 : Below w.heap.size w W2 := by
      rw [hW2]
      exact (h0.trans (h1.mono h0.size)).alloc (Nat.le_trans h0.size h1.size) _
    have hbk2 : W2.heap[w1.heap.size]? = some (.cells #[.int .i64 X0.x, .int .i64 X0.y, .int .i64 X1.x, .int .i64 X1.y, .int .i64 X2.x, .int .i64 X2.y] 40 (0, 0)) := by rw [hW2]; exact heap_alloc_new w1 _
    have hw12 : Below w1.heap.size w1 W2 := by rw [hW2]; exact (Below.refl _ _).alloc (Nat.le_refl _) _
    have hl2 : w1.heap.size < W2.heap.size := (Array.getElem?_eq_some_iff.1 hbk2).1
    have HT2 := Lib.hid (tape_mix HT.out h2)
    have HW2 := Lib.hid hW2
    clear hW2
    go_wp2_with (fail)
    rw [← HW2.out]
    refine (noteO_any tv evs _ 6 0 0 W2 HT2.out (by omega) (by decide) (fun g hg => .inr hg)).mono ?_
    rintro e w3 ⟨rfl, ht3, hm3⟩
    have hm := moved_mix h2 hm3
    have hwt := hw w3 hm
    have hkeep : ∀ (k : Nat) (b : Nat), w.heap.size ≤ b → b < W2.heap.size → w3.cell? ⟨b, k, none⟩ = W2.cell? ⟨b, k, none⟩ := fun k b h1 h4 => hm3.cell (p := ⟨b, k, none⟩) h4 (fun h => h.elim (fun h => by have h5 : b < w.heap.size := h.2; omega) (fun h => by have h5 : W2.heap.size ≤ b := h; omega))
    obtain ⟨q0, q1, q2, q3, q4, q5⟩ := six_cells hbk2
    have hws1 : w.heap.size ≤ w1.heap.size := Nat.le_trans h0.size h1.size
    have y0 := (hkeep 0 w1.heap.size hws1 hl2).trans q0
    have y1 := (hkeep (0 + 1) w1.heap.size hws1 hl2).trans q1
    have y2 := (hkeep 2 w1.heap.size hws1 hl2).trans q2
    have y3 := (hkeep (2 + 1) w1.heap.size hws1 hl2).trans q3
    have y4 := (hkeep (2 * 2) w1.heap.size hws1 hl2).trans q4
    have y5 := (hkeep (2 * 2 + 1) w1.heap.size hws1 hl2).trans q5
    have hb1 : bp < w1.heap.size := Nat.lt_of_lt_of_le hbW h1.size
    have x0 := (hkeep 0 bp hbs (by omega)).trans ((hw12.cell (p := ⟨bp, 0, none⟩) hb1).trans ((h1.cell (p := ⟨bp, 0, none⟩) hbW).trans kp0))
    have x1 := (hkeep 1 bp hbs (by omega)).trans ((hw12.cell (p := ⟨bp, 1, none⟩) hb1).trans ((h1.cell (p := ⟨bp, 1, none⟩) hbW).trans kp1))
    clear z0 z1 z2 z3 z4 z5 f0 hk1 q0 q1 q2 q3 q4 q5 hkeep hbk2
    go_wp2_with (fail)
    refine (cirSide_d X0 X1 X2 p w3 hwt HPs.out HQs.out HXs.out HP.out r HR0.out).mono ?_
    rintro e w9 ⟨rfl, h9⟩
    have hT9 : TapeO w9 (fun g => T g ∨ w.heap.size ≤ g) tv (addT tv evs [⟨6, 0, 0⟩]) := (ht3.next h9).imp fun g hg => by rcases hg with hg | hg; exact .inl hg.1; exact .inr (by have := h2.size; omega)
    have hm9 : Moved T w w9 := hm.trans (.of_below h9)
    go_wp2
    go_ret
    exact ⟨rfl, hT9, hm9⟩
  · have HR := Lib.hid (show r = -1 by rw [← hr]; exact locD_no (by omega) p)
    have hE := Lib.hid (show locDE n = [] by unfold locDE; rw [if_neg h3])
    have HT := Lib.hid ht
    rw [hE.out]
    have H3 := Lib.hid h3
    clear hr hn ha hS h3 ht
    go_enter Tryd.func13, Tryd.ntmps13
    go_upto_region 1 with (fail)
    rw [← HW.out, ← HB.out]
    go_wp2_with (fail)
    refine (boundary_no W A n c H3.out).mono ?_
    rintro e w1 ⟨rfl, h1⟩
    obtain ⟨W2, hW2⟩ : ∃ W2, W2 = w1.alloc (.cells #[.int .i64 0, .int .i64 0, .int .i64 0, .int .i64 0, .int .i64 0, .int .i64 0] 40) := ⟨_, rfl⟩
    have hk1 := heap_alloc_new w1 (.cells #[.int .i64 0, .int .i64 0, .int .i64 0, .int .i64 0, .int .i64 0, .int .i64 0] 40)
    obtain ⟨z0, z1, z2, z3, z4, z5⟩ := six_cells hk1
    have f0 := block_frozen hk1
    have h2 : Below w.heap.size w W2 := by
      rw [hW2]
      exact (h0.trans (h1.mono h0.size)).alloc (Nat.le_trans h0.size h1.size) _
    have HW2 := Lib.hid hW2
    clear hW2
    go_wp2
    rw [← HW2.out]
    go_ret
    exact ⟨by rw [HR.out]; rfl, by rw [addT_nil HT.out]; exact (HT.out.next h2).imp fun g hg => .inl hg, .of_below h2⟩
end Go.Proofs.YtehnpmkolabiaaaDoor
