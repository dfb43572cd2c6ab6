/-
  NetworkStops: the loop may stop ahead of the iterator's end.
-/
import Derived.Test.YthcckgehlfikcaaDoorLaw12c
import Derived.Lib.MinMax
namespace Go.Proofs.YthcckgehlfikcaaDoor
open Go.RowKit Go.Shelf
set_option linter.unusedVariables false
set_option linter.unusedSimpArgs false
attribute [local go_sem] Oper.semAt_some
set_option maxRecDepth 100000

set_option maxHeartbeats 8000000 in
theorem law_networkStops (power few : Int) (w : World) (hw : Wts w) (hp0 : 0 ≤ power) (hp1 : power < 256) (hf0 : 0 ≤ few) (hf1 : few < 256) : Calls Tryd.prog 8 #[.int .u8 power, .int .u8 few] w fun e w' => e = .returned (.bool true) ∧ Below w.heap.size w w' := by
  refine (callsIn_wide (n := 9)).1 ?_
  refine callsIn_of_wp_marks Tryd.func8 rfl trivial ?_ rfl
  simp only [Tryd.ntmps8, List.size_toArray, List.length_cons, List.length_nil, Nat.reduceAdd, Nat.reduceSub, Array.replicate_succ, Array.replicate_zero, List.push_toArray, List.append_toArray, List.nil_append, List.cons_append]
  have hba : Below w.heap.size w (w.alloc (.cells #[.bool false] 4)) := (Below.refl _ _).alloc (Nat.le_refl _) _
  have haR : (w.alloc (.cells #[.bool false] 4)).heap[w.heap.size]? = some (.cells #[.bool false] 4) := heap_alloc_new w _
  have haS : (w.alloc (.cells #[.bool false] 4)).heap.size = w.heap.size + 1 := by simp
  obtain ⟨n, hn⟩ : ∃ n : Int, wrap64 (2 ^ (power % 7).toNat) = n := ⟨_, rfl⟩
  gi_wp2_with (fail)
  refine ⟨trivial, (callsIn_wide.2 (ref12Comparators_any n _)).mono ?_⟩
  rintro e w1 ⟨v, rfl, ⟨hrow, hb1⟩⟩
  obtain ⟨A, c, rfl⟩ := row_form hrow
  have hR1 := (hb1.block w.heap.size (by omega)).trans haR
  have hs1 := hb1.size
  have hlen := compsN_len n
  generalize hcs : compsN n = cs at *
  have HCS := Lib.hid hcs
  clear hcs
  obtain ⟨K, hKe, hKl⟩ : ∃ K : Nat, min few (cs.length : Int) = (K : Int) ∧ K ≤ cs.length := ⟨(min few (cs.length : Int)).toNat, by omega, by omega⟩
  obtain ⟨wb, hwb⟩ : ∃ wb, wb = allocs w1 [.cells #[.slice A cs.length c] 25, .cells #[.int .i64 K] 3, .cells #[.int .i64 0] 3] := ⟨_, rfl⟩
  have hbb : Below w1.heap.size w1 wb := by rw [hwb]; exact allocs_below _ _
  have hwant : wb.heap[w1.heap.size]? = some (.cells #[.slice A cs.length c] 25) := by rw [hwb]; exact allocs_at _ _ 0 (by simp)
  have hkb : wb.heap[w1.heap.size + 1]? = some (.cells #[.int .i64 K] 3) := by rw [hwb]; exact allocs_at _ _ 1 (by simp)
  have hib : wb.heap[w1.heap.size + 2]? = some (.cells #[.int .i64 0] 3) := by rw [hwb]; exact allocs_at _ _ 2 (by simp)
  have hsb : wb.heap.size = w1.heap.size + 3 := by rw [hwb]; exact allocs_size _ _
  have HWB := Lib.hid hwb
  clear hwb
  gi_wp2_with (fail)
  rw [show ((w1.alloc (.cells #[.slice A cs.length c] 25)).alloc (.cells #[.int .i64 K] 3)).alloc (.cells #[.int .i64 0] 3) = wb from HWB.out.symm]
  refine ⟨trivial, (callsIn_wide.2 (netAll_c n wb)).mono ?_⟩
  rintro e w2 ⟨f, rfl, ⟨gf, lb, bs, rfl, eg, hbs, hy⟩, hb2⟩
  rw [HCS.out] at hy
  have hR2 := ((hbb.trans (hb2.mono (by omega))).block w.heap.size (by omega)).trans hR1
  have hwant2 := (hb2.block w1.heap.size (by omega)).trans hwant
  have hkb2 := (hb2.block (w1.heap.size + 1) (by omega)).trans hkb
  have hib2 := (hb2.block (w1.heap.size + 1 + 1) (by omega)).trans hib
  have hrow2 := row_below hrow (hbb.trans (hb2.mono (by omega)))
  have hown : ∀ g, (Value.slice A cs.length c).ownBlock = some g → g < w1.heap.size := fun g hg => (World.ownsRow.lt hrow g hg).2
  have hbw : Below w.heap.size w w2 := (hba.trans (hb1.mono hba.size)).trans ((hbb.trans (hb2.mono (by omega))).mono (by omega))
  have hs2 := hb2.size
  have hitl : ∀ p ∈ bs, p.1 < w2.heap.size := fun p hp => (Array.getElem?_eq_some_iff.1 (hbs p hp).2).1
  clear hrow hwant hib hkb hR1 HWB hb1 hbb hb2
  gi_wp2_with (fail)
  rw [nil12]
  gi_wp2_with (fail)
  refine wpIn_rangeFunc_z (F := Fence.wide) (n := 9) rfl (by decide) (gf := gf) rfl trivial eg hy (fun _ => rfl)
    (fun k W => ∃ i : Nat, i = k ∧ k ≤ K ∧ LoopC w (w2.heap.size + 2) [(w1.heap.size + 1 + 1, .int .i64 i, 3), (w1.heap.size + 1, .int .i64 K, 3), (w1.heap.size, .slice A cs.length c, 25), (w.heap.size, .bool false, 4)] (w.alloc (.cells #[.bool false] 4)).heap.size (.slice A cs.length c) cs bs w1.heap.size w2.heap.size W)
    (fun k W => ∃ i : Nat, i = k ∧ k ≤ K ∧ LoopC w (w2.heap.size + 2) [(w1.heap.size + 1 + 1, .int .i64 i, 3), (w1.heap.size + 1, .int .i64 K, 3), (w1.heap.size, .slice A cs.length c, 25), (w.heap.size, .bool false, 4)] (w.alloc (.cells #[.bool false] 4)).heap.size (.slice A cs.length c) cs bs w1.heap.size w2.heap.size W)
    (fun co W => co = .exit 0 ∧ ∃ i : Nat, i = K ∧ LoopC w (w2.heap.size + 2) [(w1.heap.size + 1 + 1, .int .i64 i, 3), (w1.heap.size + 1, .int .i64 K, 3), (w1.heap.size, .slice A cs.length c, 25), (w.heap.size, .bool false, 4)] (w.alloc (.cells #[.bool false] 4)).heap.size (.slice A cs.length c) cs bs w1.heap.size w2.heap.size W) ?hI ?hIx ?h0 ?hpre ?hst ?hfi ?hfx
    (fun k a' W => ∃ i : Nat, i = k ∧ k ≤ K ∧ LoopC w (w2.heap.size + 2) [(w1.heap.size + 1 + 1, .int .i64 i, 3), (w1.heap.size + 1, .int .i64 K, 3), (w1.heap.size, .slice A cs.length c, 25), (w.heap.size, .bool false, 4)] (w.alloc (.cells #[.bool false] 4)).heap.size (.slice A cs.length c) cs bs w1.heap.size w2.heap.size W ∧
      ∃ cb, w2.heap.size + 2 ≤ cb ∧ W.heap[cb]? = some (.cells #[.int .i64 ((cs.getD k (0, 0)).1 : Nat), .int .i64 ((cs.getD k (0, 0)).2 : Nat)] 31) ∧ a' = { tmps := #[.int .u8 power, .int .u8 few, undef, undef, .pointer (some { block := w.heap.size, off := 0 }), .int .i64 n, .pointer (some { block := w1.heap.size, off := 0 }), .pointer (some { block := w1.heap.size + 1, off := 0 }), .pointer (some { block := w1.heap.size + 1 + 1, off := 0 }), .func (.func gf) #[] lb, .pointer (some { block := cb, off := 0 }), .int .u8 power, .int .u8 (power % 7), .int .i64 n, .int .i64 n, .slice A cs.length c, .int .u8 few, .int .i64 few, .slice A cs.length c, .int .i64 cs.length, .int .i64 K, .int .i64 n, .func (.func gf) #[] lb, .func (.func gf) #[] lb, .bool false, .func (.func gf) #[] lb, .agg #[.int .i64 ((cs.getD k (0, 0)).1 : Nat), .int .i64 ((cs.getD k (0, 0)).2 : Nat)], undef, undef, undef, undef, undef, undef, undef, undef, undef, undef, undef, undef, undef, undef, undef, undef, undef, undef, undef, undef, undef, undef, undef, undef, undef, undef, undef, undef, undef], defers := [] }) ?hAx ?assign ?body ?done ?stop
  case hI => exact fun k W o ⟨i, hi, hk, h⟩ => ⟨i, hi, hk, h.put (by omega) (by simp; omega) (by omega) (by omega) o⟩
  case hIx => exact fun k W o ⟨hc, i, hi, h⟩ => ⟨hc, i, hi, h.put (by omega) (by simp; omega) (by omega) (by omega) o⟩
  case h0 =>
    refine fun o => ⟨0, rfl, Nat.zero_le _, In.start hbw ?_ rfl _ _, row_below hrow2 (((Below.refl _ _).alloc (Nat.le_refl _) _).alloc (by simp) _), hown, fun p hp => ?_, hitl⟩
    · simp only [List.forall_mem_cons, List.not_mem_nil, false_imp_iff, implies_true, and_true]
      exact ⟨⟨by omega, hib2⟩, ⟨by omega, hkb2⟩, ⟨by omega, hwant2⟩, by omega, hR2⟩
    · have hb3 : Below w2.heap.size w2 ((w2.alloc (.deferred (some []))).alloc o) := ((Below.refl _ _).alloc (Nat.le_refl _) _).alloc (by simp) _
      exact (hb3.block p.1 (hitl p hp)).trans (hbs p hp).2
  case hpre => exact fun k W ⟨i, hi, hk, h⟩ => h.its
  case hst => exact fun k W W' _ hlt ⟨i, hi, hk, h⟩ hs => ⟨Same2.of_below hs hlt, i, hi, hk, h.below hs⟩
  case hfi => exact fun W W' hlt ⟨i, hi, hk, h⟩ hs => ⟨Same2.of_below hs hlt, i, hi, hk, h.below hs⟩
  case hfx => exact fun co W W' hlt ⟨hc, i, hi, h⟩ hs => ⟨Same2.of_below hs hlt, hc, i, hi, h.below hs⟩
  case hAx =>
    rintro k a' W o ⟨i, hi, hk, h, cb, hcb, hh, rfl⟩
    exact ⟨i, hi, hk, h.put (by omega) (by simp; omega) (by omega) (by omega) o, cb, hcb, (World.putObj_heap_other (by omega)).trans hh, rfl⟩
  case assign =>
    rintro l k W C hkn hlt ⟨i, hi, hk, h⟩ hC
    have hsz := h.inn.size
    dsimp only [cmpV]
    obtain ⟨p, hp⟩ : ∃ p, p = cs.getD k (0, 0) := ⟨_, rfl⟩
    rw [← hp]
    have HP := Lib.hid hp
    clear hp
    gi_wp2
    refine hC _ _ (Same2.of_below ((Below.refl _ _).alloc (Nat.le_refl _) _) hlt) ⟨i, hi, hk, h.below ((Below.refl _ _).alloc (Nat.le_refl _) _), W.heap.size, hsz, ?_, ?_⟩
    · rw [← HP.out]; exact heap_alloc_new W _
    · rw [← HP.out]
  case body =>
    rintro l k a' W hkn hlt ⟨i, rfl, hk, h, cb, hcb, hh, rfl⟩
    obtain ⟨ci, fi⟩ := h.inn.b0
    obtain ⟨ck, _⟩ := h.inn.b1
    obtain ⟨cw, _⟩ := h.inn.b2
    by_cases hlast : i = K
    · subst hlast
      have d0 : decide (i ≤ i) = true := decide_eq_true (Nat.le_refl _)
      gi_wp2
      rw [haS] at h
      exact ⟨Same2.refl _ _, rfl, h⟩
    · obtain ⟨c0, c1⟩ := cells_two hh
      obtain ⟨g, c', e, k1, k2⟩ := row_pair h.row hkn
      injection e with e1 _ e2
      subst e1 e2
      rw [show cs.getD i (0, 0) = cs[i]'hkn by simp [hkn]] at c0 c1
      generalize cs[i]'hkn = p at c0 c1 k1 k2
      have d0 : decide (K ≤ i) = false := decide_eq_false (by omega)
      have d1 : ((p.1 : Int) != (p.1 : Int)) = false := by simp
      have d2 : ((p.2 : Int) != (p.2 : Int)) = false := by simp
      gi_wp2
      refine quiet_round (by kernel_rfl) (by kernel_rfl) (by kernel_rfl) (fun _ _ h => h) ?_
      repeat (go_big_quiet_step (fail))
      refine wpQuiet_nil ?_
      intro _ hw'
      obtain ⟨nq, hw''⟩ := hw'
      subst hw''
      gi_wp2
      rw [show (i : Int) + 1 = ((i + 1 : Nat) : Int) from rfl]
      have hbW : Below W.heap.size W (W.drewN nq) := below_drewN' (Below.refl _ _) nq
      exact ⟨(Same2.of_below hbW hlt).trans (same2_set (by omega) (by omega)), i + 1, rfl, by omega, (h.below hbW).set (by simp; omega) (by omega) (fun q hq => by have := (hbs q hq).1; omega) _⟩
  case done =>
    rintro W ⟨i, hi, hk, h⟩ hK
    obtain rfl : i = K := by omega
    obtain ⟨ci, fi⟩ := h.inn.b0
    obtain ⟨ck, _⟩ := h.inn.b1
    obtain ⟨cr, fr⟩ := h.inn.b3
    have hwW := hw.below (h.inn.moved.below (Below.refl _ w) (fun _ h => h.elim) (Nat.le_refl _))
    gi_wp2_with (fail)
    refine ⟨trivial, (callsIn_wide.2 (alive12_any _ hwW)).mono ?_⟩
    rintro e w7 ⟨rfl, hb7⟩
    have h7 := h.below hb7
    obtain ⟨ci7, fi7⟩ := h7.inn.b0
    obtain ⟨ck7, _⟩ := h7.inn.b1
    obtain ⟨cr7, fr7⟩ := h7.inn.b3
    have hK7 : (w7.setCell ⟨w.heap.size, 0, none⟩ (.bool true)).heap[w2.heap.size]? = some (.deferred (some [])) := (Below.heap_setCell _ _ _ _ (by show w2.heap.size ≠ w.heap.size; omega)).trans ((hb7.block _ (Array.getElem?_eq_some_iff.1 hK).1).trans hK)
    have hin7 := ((h7.inn.sub (bx' := [(w.heap.size, .bool false, 4)]) (by simp)).set (by simp) (.bool true)).put (l := w2.heap.size) (by omega) (by simp; omega) (.deferred none)
    have hc := hin7.b0.1
    have hbe := hin7.moved.below (Below.refl _ w) (fun _ h => h.elim) (Nat.le_refl _)
    dsimp only at hc hbe
    gi_wp2
    refine ⟨by simp, .inl ⟨_, _, rfl, run_takeDeferred hK7, ?_⟩⟩
    exact ⟨.bool true, by simp [results, Tryd.results8, go_sem, hc], rfl, hbe⟩
  case stop =>
    rintro co W ⟨rfl, i, rfl, h⟩ hK
    obtain ⟨ci, fi⟩ := h.inn.b0
    obtain ⟨ck, _⟩ := h.inn.b1
    obtain ⟨cr, fr⟩ := h.inn.b3
    have hwW := hw.below (h.inn.moved.below (Below.refl _ w) (fun _ h => h.elim) (Nat.le_refl _))
    gi_wp2_with (fail)
    refine ⟨trivial, (callsIn_wide.2 (alive12_any _ hwW)).mono ?_⟩
    rintro e w7 ⟨rfl, hb7⟩
    have h7 := h.below hb7
    obtain ⟨ci7, fi7⟩ := h7.inn.b0
    obtain ⟨ck7, _⟩ := h7.inn.b1
    obtain ⟨cr7, fr7⟩ := h7.inn.b3
    have hK7 : (w7.setCell ⟨w.heap.size, 0, none⟩ (.bool true)).heap[w2.heap.size]? = some (.deferred (some [])) := (Below.heap_setCell _ _ _ _ (by show w2.heap.size ≠ w.heap.size; omega)).trans ((hb7.block _ (Array.getElem?_eq_some_iff.1 hK).1).trans hK)
    have hin7 := ((h7.inn.sub (bx' := [(w.heap.size, .bool false, 4)]) (by simp)).set (by simp) (.bool true)).put (l := w2.heap.size) (by omega) (by simp; omega) (.deferred none)
    have hc := hin7.b0.1
    have hbe := hin7.moved.below (Below.refl _ w) (fun _ h => h.elim) (Nat.le_refl _)
    dsimp only at hc hbe
    gi_wp2
    refine ⟨by simp, .inl ⟨_, _, rfl, run_takeDeferred hK7, ?_⟩⟩
    exact ⟨.bool true, by simp [results, Tryd.results8, go_sem, hc], rfl, hbe⟩
end Go.Proofs.YthcckgehlfikcaaDoor
