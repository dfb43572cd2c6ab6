/-
  Contracts of package network over the landed code: slices.Collect over its iterator, Comparators.
-/
import Derived.Test.YthcckgehlfikcaaDoorNetB
import Derived.RangeFuncBox
namespace Go.Proofs.YthcckgehlfikcaaDoor
open Go.RowKit Go.Shelf
set_option maxRecDepth 100000
set_option linter.unusedVariables false
set_option linter.unusedSimpArgs false
attribute [local go_sem] Oper.semAt_some

theorem infoT : (Tryd.prog.info? 31).map (fun i => (i.zero, i.size, i.bytes)) = some (some (.agg #[.int .i64 0, .int .i64 0]), 2, 16) := by kernel_rfl
theorem netComps_len (n : Int) : (compsN n).length ≤ 1000000 := by
  unfold compsN
  split
  · rename_i h
    obtain ⟨q, hq, rfl⟩ := (isN_iff n).1 h
    rw [lgN_pow hq]
    have h1 := kl_len (2 ^ q) q
    have h2 := pow_le_4096 hq
    have h4 : q * q * 2 ^ q ≤ 12 * 12 * 4096 := Nat.mul_le_mul (Nat.mul_le_mul hq hq) h2
    exact Nat.le_trans h1 (by omega)
  · simp
theorem cells_pair {w : World} {b : Nat} {u v : Value} {t : TypeId} (h : w.heap[b]? = some (.cells #[u, v] t (0, 0))) : w.cell? ⟨b, 0, none⟩ = some u ∧ w.cell? ⟨b, 1, none⟩ = some v := by
  constructor <;> simp [World.cell?, h]
theorem row_lower {w : World} {b b' : Nat} {e : TypeId} {s : Nat} {v : Value} {n : Nat} {xs : List Value} (h : w.ownsRow b e s v n xs) (hb : b' ≤ b) : w.ownsRow b' e s v n xs := by
  obtain ⟨hl, h⟩ := h
  refine ⟨hl, ?_⟩
  rcases h with h | ⟨g, cap, cur, rfl, hb2, rest⟩
  · exact .inl h
  · exact .inr ⟨g, cap, cur, rfl, Nat.le_trans hb hb2, rest⟩
/-- What the collecting loop keeps. -/
structure Coll (w : World) (b D : Nat) (bs : List (Nat × Obj)) (cs : List (Nat × Nat)) (k : Nat) (v : Value) (W : World) : Prop where
  below : Below w.heap.size w W
  size : D + 2 ≤ W.heap.size
  box : W.heap[b]? = some (.cells #[v] 34 (0, 0))
  row : W.ownsRow (D + 2) 31 2 v k ((cs.take k).flatMap pairC)
  its : ∀ p ∈ bs, W.heap[p.1]? = some p.2
theorem Coll.next {w : World} {b D : Nat} {bs : List (Nat × Obj)} {cs : List (Nat × Nat)} {k : Nat} {v : Value} {W W' : World} (h : Coll w b D bs cs k v W) (hb : Below W.heap.size W W') : Coll w b D bs cs k v W' :=
  have lt : ∀ {j : Nat} {o : Obj}, W.heap[j]? = some o → j < W.heap.size := fun h => (Array.getElem?_eq_some_iff.1 h).1
  ⟨h.below.trans (hb.mono h.below.size), Nat.le_trans h.size hb.size, (hb.block b (lt h.box)).trans h.box, row_keep h.row fun g hg => hb.block g (World.ownsRow.lt h.row g hg).2, fun p hp => (hb.block _ (lt (h.its p hp))).trans (h.its p hp)⟩
theorem Coll.put {w : World} {b D : Nat} {bs : List (Nat × Obj)} {cs : List (Nat × Nat)} {k : Nat} {v : Value} {W : World} (h : Coll w b D bs cs k v W) {l : Nat} (hl : D ≤ l) (hl2 : l < D + 2) (hb : b < D) (hw : w.heap.size ≤ D) (hbs : ∀ p ∈ bs, p.1 < D) (o : Obj) : Coll w b D bs cs k v (W.putObj l o) := by
  have hsz : (W.putObj l o).heap.size = W.heap.size := World.putObj_size
  refine ⟨⟨h.below.os, h.below.tape, h.below.output, by rw [hsz]; exact h.below.size, fun j hj => (World.putObj_heap_other (by omega)).trans (h.below.block j hj)⟩, by rw [hsz]; exact h.size, (World.putObj_heap_other (by omega)).trans h.box, row_keep h.row fun g hg => World.putObj_heap_other ?_, fun p hp => (World.putObj_heap_other (by have := hbs p hp; omega)).trans (h.its p hp)⟩
  have := (World.ownsRow.lt h.row g hg).1
  omega
/-- The step of a round: an append, its result stored in the box. -/
theorem Coll.step {w : World} {b D : Nat} {bs : List (Nat × Obj)} {cs : List (Nat × Nat)} {k : Nat} {v v' : Value} {W W1 : World} {tmp : Obj} (h : Coll w b D bs cs k v W) (hb : b < D) (hw : w.heap.size ≤ b) (hbs : ∀ p ∈ bs, p.1 < D ∧ p.1 ≠ b)
    (hown : W1.ownsRow (D + 2) 31 2 v' (k + 1) ((cs.take (k + 1)).flatMap pairC)) (hg : (W.alloc tmp).grownBy W1 v.ownBlock) :
    W1.heap[b]? = some (.cells #[v] 34 (0, 0)) ∧ Coll w b D bs cs (k + 1) v' (W1.setCell ⟨b, 0, none⟩ v') ∧ Same2 D W (W1.setCell ⟨b, 0, none⟩ v') := by
  have lt : ∀ {j : Nat} {o : Obj}, W.heap[j]? = some o → j < W.heap.size := fun h => (Array.getElem?_eq_some_iff.1 h).1
  have key : ∀ j, j < D + 2 → W1.heap[j]? = W.heap[j]? := fun j hj => by
    have h1 := h.size
    refine (hg.block j (by simp; omega) fun e => ?_).trans (Below.heap_alloc _ _ _ (by omega))
    have := (World.ownsRow.lt h.row j e.symm).1
    omega
  have hs1 : W.heap.size ≤ W1.heap.size := by have := hg.size; simp at this; omega
  have hx : W1.heap[b]? = some (.cells #[v] 34 (0, 0)) := (key b (by omega)).trans h.box
  have hsz : (W1.setCell ⟨b, 0, none⟩ v').heap.size = W1.heap.size := by simp
  have hne : ∀ j, j ≠ b → (W1.setCell ⟨b, 0, none⟩ v').heap[j]? = W1.heap[j]? := fun j hj => Below.heap_setCell _ _ _ _ hj
  refine ⟨hx, ⟨?_, by rw [hsz]; exact Nat.le_trans h.size hs1, heap_set_one hx, row_keep hown fun g hg' => hne g ?_, fun p hp => (hne _ (hbs p hp).2).trans ((key _ (by have := (hbs p hp).1; omega)).trans (h.its p hp))⟩, ⟨(hne _ (by omega)).trans (key _ (by omega)), (hne _ (by omega)).trans (key _ (by omega))⟩⟩
  · exact ⟨hg.os.trans h.below.os, hg.tape.trans h.below.tape, hg.output.trans h.below.output, by rw [hsz]; exact Nat.le_trans h.below.size hs1, fun j hj => (hne j (by omega)).trans ((key j (by omega)).trans (h.below.block j hj))⟩
  · have := (World.ownsRow.lt hown g hg').1
    omega
set_option maxHeartbeats 4000000 in
theorem collect_any (v : Value) (cs : List (Nat × Nat)) (base : Nat) (w : World) (hv : SeqC w base v cs) (hlen : cs.length ≤ 1000000) :
    Calls Tryd.prog 33 #[.slice none 0 0, v] w fun e w' => ∃ r, e = .returned r ∧ RowT w.heap.size w w' r cs := by
  obtain ⟨gf, lb, bs, rfl, eg, hbs, hy⟩ := hv
  obtain ⟨i0, hi, hz0, hz1, hz2⟩ := info_parts infoT
  have hlt0 : ∀ p ∈ bs, p.1 < w.heap.size := fun p hp => (Array.getElem?_eq_some_iff.1 (hbs p hp).2).1
  refine (callsIn_wide (n := 9)).1 ?_
  refine callsIn_of_wp_marks Tryd.func33 rfl trivial ?_ rfl
  simp only [Tryd.ntmps33, List.size_toArray, List.length_cons, List.length_nil, Nat.reduceAdd, Nat.reduceSub, Array.replicate_succ, Array.replicate_zero, List.push_toArray, List.append_toArray, List.nil_append, List.cons_append]
  obtain ⟨w2, hw2⟩ : ∃ w2, w2 = w.alloc (.cells #[.slice none 0 0] 34) := ⟨_, rfl⟩
  have hbw : Below w.heap.size w w2 := by rw [hw2]; exact (Below.refl _ _).alloc (Nat.le_refl _) _
  have hs2 : w2.heap.size = w.heap.size + 1 := by rw [hw2]; simp
  have hbx : w2.heap[w.heap.size]? = some (.cells #[.slice none 0 0] 34 (0, 0)) := by rw [hw2]; exact heap_alloc_new w _
  have HW2 := Lib.hid hw2
  clear hw2
  gi_wp2_with (fail)
  rw [← HW2.out]
  refine wpIn_rangeFunc_z (F := Fence.wide) (n := 9) rfl (by decide) (gf := gf) rfl trivial eg hy (fun _ => rfl)
    (fun k W => ∃ u, Coll w w.heap.size w2.heap.size bs cs k u W)
    (fun k W => ∃ u, Coll w w.heap.size w2.heap.size bs cs k u W)
    (fun _ _ => False) ?hI (fun _ _ _ h => h) ?h0 ?hpre ?hst ?hfi (fun _ _ _ _ h => h.elim)
    (fun k a' W => ∃ u, Coll w w.heap.size w2.heap.size bs cs k u W ∧ ∃ cb, w2.heap.size + 2 ≤ cb ∧ W.heap[cb]? = some (.cells #[.int .i64 ((cs.getD k (0, 0)).1 : Nat), .int .i64 ((cs.getD k (0, 0)).2 : Nat)] 31) ∧
      a' = { tmps := #[.slice none 0 0, .func (.func gf) #[] lb, .pointer (some { block := w.heap.size, off := 0 }), undef, .slice none 0 0, .pointer (some { block := cb, off := 0 }), .func (.func gf) #[] lb, .agg #[.int .i64 ((cs.getD k (0, 0)).1 : Nat), .int .i64 ((cs.getD k (0, 0)).2 : Nat)], undef, undef, undef, undef, undef], defers := [] }) ?hAx ?assign ?body ?done ?stop
  case hI => exact fun k W o ⟨u, h⟩ => ⟨u, h.put (by omega) (by omega) (by omega) (by omega) (fun p hp => by have := hlt0 p hp; omega) o⟩
  case h0 =>
    intro o
    have hb3 : Below w2.heap.size w2 ((w2.alloc (.deferred (some []))).alloc o) := ((Below.refl _ _).alloc (Nat.le_refl _) _).alloc (by simp) _
    exact ⟨_, hbw.trans (hb3.mono (by omega)), by simp, (hb3.block _ (by omega)).trans hbx, World.ownsRow_nil _ _ _ _, fun p hp => (hb3.block _ (by have := hlt0 p hp; omega)).trans ((hbw.block _ (hlt0 p hp)).trans (hbs p hp).2)⟩
  case hpre => exact fun k W ⟨u, h⟩ => h.its
  case hst => exact fun k W W' _ hlt ⟨u, h⟩ hs => ⟨Same2.of_below hs hlt, u, h.next hs⟩
  case hfi => exact fun W W' hlt ⟨u, h⟩ hs => ⟨Same2.of_below hs hlt, u, h.next hs⟩
  case hAx =>
    rintro k a' W o ⟨u, h, cb, hcb, hh, rfl⟩
    exact ⟨u, h.put (by omega) (by omega) (by omega) (by omega) (fun p hp => by have := hlt0 p hp; omega) o, cb, hcb, (World.putObj_heap_other (by omega)).trans hh, rfl⟩
  case assign =>
    rintro l k W K hk hlt ⟨u, h⟩ hK
    have hsz := h.size
    dsimp only [cmpV]
    obtain ⟨p, hp⟩ : ∃ p, p = cs.getD k (0, 0) := ⟨_, rfl⟩
    rw [← hp]
    have HP := Lib.hid hp
    clear hp
    gi_wp2
    refine hK _ _ (Same2.of_below ((Below.refl _ _).alloc (Nat.le_refl _) _) hlt) ⟨u, h.next ((Below.refl _ _).alloc (Nat.le_refl _) _), W.heap.size, hsz, ?_, ?_⟩
    · rw [← HP.out]; exact heap_alloc_new W _
    · rw [← HP.out]
  case body =>
    rintro l k a' W hk hlt ⟨u, h, cb, hcb, hh, rfl⟩
    obtain ⟨cu, fu⟩ := cells_one h.box
    obtain ⟨c0, c1⟩ := cells_pair hh
    have HT := Lib.hid (show (cs.take (k + 1)).flatMap pairC = (cs.take k).flatMap pairC ++ pairC (cs.getD k (0, 0)) by
      rw [List.take_succ_eq_append_getElem hk, List.flatMap_append, show cs.getD k (0, 0) = cs[k]'hk by simp [hk]]; simp)
    generalize cs.getD k (0, 0) = p at c0 c1 HT ⊢
    have hrow := h.row
    have hbs2 : ∀ q ∈ bs, q.1 < w2.heap.size ∧ q.1 ≠ w.heap.size := fun q hq => by have := hlt0 q hq; omega
    have hsW := h.size
    gi_wp2_with (first
      | (gi_at_builtin; refine wpListIn_append_own _ rfl _ _ 34 rfl (w2.heap.size + 2) 31 i0 (.agg #[.int .i64 0, .int .i64 0]) 2 16 Tryd.underlying34 hi hz0 hz1 hz2 rfl (by decide) u k ((cs.take k).flatMap pairC) rfl (hrow.alloc _) ⟨W.heap.size, 0, none⟩ 1 1 (pairC p) rfl rfl (pair_cells W p _) (by intro x hx; simp [pairC] at hx; rcases hx with rfl | rfl <;> rfl) (by unfold maxLen; omega) (by omega) (by simp; omega) ?_
         intro v' w1 hown1 hgrow _
         rw [← HT.out] at hown1
         obtain ⟨hb1, hc2, hsame⟩ := h.step (by omega) (Nat.le_refl _) hbs2 hown1 hgrow
         obtain ⟨cu1, fu1⟩ := cells_one hb1
         obtain ⟨A', c', rfl⟩ := row_form hown1))
    exact ⟨hsame, _, hc2⟩
  case done =>
    rintro W ⟨u, h⟩ hK
    obtain ⟨cu, fu⟩ := cells_one h.box
    gi_wp2
    refine ⟨by simp, .inl ⟨_, _, rfl, run_takeDeferred hK, ?_⟩⟩
    have h2 := h.put (l := w2.heap.size) (Nat.le_refl _) (by omega) (by omega) (by omega) (fun p hp => by have := hlt0 p hp; omega) (.deferred none)
    refine ⟨_, results_tmp rfl _ _ _, _, rfl, ?_, h2.below⟩
    have := row_lower h2.row (show w.heap.size ≤ w2.heap.size + 2 by omega)
    rwa [List.take_length] at this
  case stop =>
    rintro c W h
    exact h.elim
theorem netComparators_c (n : Int) (w : World) : Calls Tryd.prog 16 #[.int .i64 n] w fun e w' => ∃ v, e = .returned v ∧ RowT w.heap.size w w' v (compsN n) := by
  go_enter Tryd.func16, Tryd.ntmps16
  go_wp2_with (fail)
  refine (netAll_c n w).mono ?_
  rintro e w1 ⟨v, rfl, hv, hb1⟩
  have HC : Calls Tryd.prog 27 #[v] w1 fun e w' => ∃ r, e = .returned r ∧ RowT w1.heap.size w1 w' r (compsN n) := by
    go_enter Tryd.func27, Tryd.ntmps27
    go_wp2_with (fail)
    refine (collect_any v _ _ w1 hv (netComps_len n)).mono ?_
    rintro e w2 ⟨r, rfl, hr⟩
    go_wp2
    go_ret
    exact ⟨_, rfl, hr⟩
  go_wp2_with (fail)
  refine HC.mono ?_
  rintro e w2 ⟨r, rfl, hr, hb2⟩
  go_wp2
  go_ret
  exact ⟨_, rfl, row_lower hr hb1.size, hb1.trans (hb2.mono hb1.size)⟩
end Go.Proofs.YthcckgehlfikcaaDoor
