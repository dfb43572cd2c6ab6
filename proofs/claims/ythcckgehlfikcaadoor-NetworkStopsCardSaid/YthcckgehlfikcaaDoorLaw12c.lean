/-
  Layer 12: NetworkComparators, NetworkStops: ranges over the iterator.
-/
import Derived.Test.YthcckgehlfikcaaDoorLaw12
import Derived.Test.YthcckgehlfikcaaDoorIn
import Derived.Shelf.Abstract
import Derived.Shelf.RegionOpen
import Derived.WalkKit
import Derived.OwnWalkIn
import Derived.TacticsInMore
import Derived.LoopNIn
import Derived.LoopIn
namespace Go.Proofs.YthcckgehlfikcaaDoor
open Go.RowKit Go.Shelf
set_option maxRecDepth 100000
set_option linter.unusedVariables false
set_option linter.unusedSimpArgs false
attribute [local go_sem] Oper.semAt_some

theorem compsN_len (n : Int) : (compsN n).length ≤ 1000000 := by
  unfold compsN
  split
  · rename_i h
    obtain ⟨q, hq, rfl⟩ := (isN_iff n).1 h
    rw [lgN_pow hq]
    have h1 := kl_len (2 ^ q) q
    have h2 := pow_le_4096 hq
    have h4 : q * q * 2 ^ q ≤ 12 * 12 * 4096 := Nat.mul_le_mul (Nat.mul_le_mul hq hq) h2
    exact Nat.le_trans h1 (by omega)
  · simp
theorem nil12 (gf : Nat) (lb : Array Value) (w : World) : Sem.run Tryd.prog (binOp BinOp.eql 28 (.func (.func gf) #[] lb) .nilFunc) w = Result.ok (Value.bool false) w := by kernel_rfl
theorem row_heap {w w' : World} {base : Nat} {e : TypeId} {s : Nat} {v : Value} {n : Nat} {xs : List Value} (h : w.ownsRow base e s v n xs) (hk : ∀ g, v.ownBlock = some g → w'.heap[g]? = w.heap[g]?) : w'.ownsRow base e s v n xs := by
  obtain ⟨hl, h⟩ := h
  refine ⟨hl, ?_⟩
  rcases h with h | ⟨g, cap, cur, rfl, hb, hg, rest⟩
  · exact .inl h
  · exact .inr ⟨g, cap, cur, rfl, hb, (hk g rfl).trans hg, rest⟩
theorem row_below {w w' : World} {base : Nat} {e : TypeId} {s : Nat} {v : Value} {n : Nat} {xs : List Value} (h : w.ownsRow base e s v n xs) (hb : Below w.heap.size w w') : w'.ownsRow base e s v n xs := row_heap h fun g hg => hb.block g (World.ownsRow.lt h g hg).2
theorem cells_two {w : World} {b : Nat} {u v : Value} {t : TypeId} (h : w.heap[b]? = some (.cells #[u, v] t (0, 0))) : w.cell? ⟨b, 0, none⟩ = some u ∧ w.cell? ⟨b, 1, none⟩ = some v := by
  constructor <;> simp [World.cell?, h]
/-- What a loop over the iterator keeps: the boxes, the list, the iterator's own blocks. -/
structure LoopC (w : World) (B : Nat) (bx : List (Nat × Value × TypeId)) (base : Nat) (v : Value) (cs : List (Nat × Nat)) (bs : List (Nat × Obj)) (lo D : Nat) (W : World) : Prop where
  inn : In w (fun _ => False) B bx W
  row : W.ownsRow base 32 2 v cs.length (cs.flatMap pairC)
  own : ∀ g, v.ownBlock = some g → g < lo
  its : ∀ p ∈ bs, W.heap[p.1]? = some p.2
  itl : ∀ p ∈ bs, p.1 < D
theorem LoopC.below {w : World} {B : Nat} {bx : List (Nat × Value × TypeId)} {base : Nat} {v : Value} {cs : List (Nat × Nat)} {bs : List (Nat × Obj)} {lo D : Nat} {W W' : World} (h : LoopC w B bx base v cs bs lo D W) (hb : Below W.heap.size W W') : LoopC w B bx base v cs bs lo D W' :=
  ⟨h.inn.below hb, row_below h.row hb, h.own, fun p hp => (hb.block p.1 (Array.getElem?_eq_some_iff.1 (h.its p hp)).1).trans (h.its p hp), h.itl⟩
theorem LoopC.put {w : World} {B : Nat} {bx : List (Nat × Value × TypeId)} {base : Nat} {v : Value} {cs : List (Nat × Nat)} {bs : List (Nat × Obj)} {lo D : Nat} {W : World} (h : LoopC w B bx base v cs bs lo D W) {l : Nat} (hl : w.heap.size ≤ l) (hn : ∀ p ∈ bx, p.1 ≠ l) (hlo : lo ≤ l) (hD : D ≤ l) (o : Obj) : LoopC w B bx base v cs bs lo D (W.putObj l o) :=
  ⟨h.inn.put hl hn o, row_heap h.row fun g hg => World.putObj_heap_other (by have := h.own g hg; omega), h.own, fun p hp => (World.putObj_heap_other (by have := h.itl p hp; omega)).trans (h.its p hp), h.itl⟩
theorem LoopC.set {w : World} {B b : Nat} {u : Value} {t : TypeId} {bx : List (Nat × Value × TypeId)} {base : Nat} {v : Value} {cs : List (Nat × Nat)} {bs : List (Nat × Obj)} {lo D : Nat} {W : World} (h : LoopC w B ((b, u, t) :: bx) base v cs bs lo D W) (hn : ∀ p ∈ bx, p.1 ≠ b) (hlo : lo ≤ b) (hit : ∀ p ∈ bs, p.1 ≠ b) (x : Value) : LoopC w B ((b, x, t) :: bx) base v cs bs lo D (W.setCell ⟨b, 0, none⟩ x) :=
  ⟨h.inn.set hn x, row_heap h.row fun g hg => Below.heap_setCell _ _ _ _ (by show g ≠ b; have := h.own g hg; omega), h.own, fun p hp => (Below.heap_setCell _ _ _ _ (hit p hp)).trans (h.its p hp), h.itl⟩
set_option maxHeartbeats 8000000 in
theorem law_networkComparators (n : Int) (w : World) (hw : Wts w) : Calls Tryd.prog 4 #[.int .i64 n] w fun e w' => e = .returned (.bool true) ∧ Below w.heap.size w w' := by
  refine (callsIn_wide (n := 9)).1 ?_
  refine callsIn_of_wp_marks Tryd.func4 rfl trivial ?_ rfl
  simp only [Tryd.ntmps4, List.size_toArray, List.length_cons, List.length_nil, Nat.reduceAdd, Nat.reduceSub, Array.replicate_succ, Array.replicate_zero, List.push_toArray, List.append_toArray, List.nil_append, List.cons_append]
  obtain ⟨r, hr⟩ : ∃ r, isN n = r := ⟨_, rfl⟩
  have HR := Lib.hid hr
  clear hr
  have hba : Below w.heap.size w (w.alloc (.cells #[.bool false] 4)) := (Below.refl _ _).alloc (Nat.le_refl _) _
  have haR : (w.alloc (.cells #[.bool false] 4)).heap[w.heap.size]? = some (.cells #[.bool false] 4) := heap_alloc_new w _
  have haS : (w.alloc (.cells #[.bool false] 4)).heap.size = w.heap.size + 1 := by simp
  by_cases hgt : 256 < n
  · gi_wp2_with (fail)
    refine ⟨trivial, (callsIn_wide.2 (ref12Is_any n _ r HR.out)).mono ?_⟩
    rintro e w' ⟨rfl, hw'⟩
    obtain rfl := hw'.symm
    cases r with
    | true =>
      gi_wp2_with (fail)
      refine ⟨trivial, (callsIn_wide.2 (alive12_any _ (hw.below hba))).mono ?_⟩
      rintro e w1 ⟨rfl, hb1⟩
      obtain ⟨hc, hf⟩ := cells_one ((hb1.block w.heap.size (by omega)).trans haR)
      gi_wp2
      refine ⟨.bool true, by simp [results, Tryd.results4, go_sem, hc], rfl, (hba.trans (hb1.mono hba.size)).setCell (p := ⟨w.heap.size, 0, none⟩) (Nat.le_refl _) _⟩
    | false =>
      gi_wp2_with (fail)
      refine ⟨trivial, (callsIn_wide.2 (ref12Comparators_any n _)).mono ?_⟩
      rintro e w1 ⟨v, rfl, ⟨hrow, hb1⟩⟩
      obtain ⟨A, c, rfl⟩ := row_form hrow
      have hR1 := (hb1.block w.heap.size (by omega)).trans haR
      have hs1 := hb1.size
      obtain ⟨wb, hwb⟩ : ∃ wb, wb = (w1.alloc (.cells #[.slice A (compsN n).length c] 25)).alloc (.cells #[.int .i64 0] 3) := ⟨_, rfl⟩
      have hbb : Below w1.heap.size w1 wb := by rw [hwb]; exact ((Below.refl _ _).alloc (Nat.le_refl _) _).alloc (by simp) _
      have hwant : wb.heap[w1.heap.size]? = some (.cells #[.slice A (compsN n).length c] 25) := by rw [hwb]; exact (Below.heap_alloc _ _ _ (by simp)).trans (heap_alloc_new w1 _)
      have hib : wb.heap[w1.heap.size + 1]? = some (.cells #[.int .i64 0] 3) := by rw [hwb]; have := heap_alloc_new (w1.alloc (.cells #[.slice A (compsN n).length c] 25)) (.cells #[.int .i64 0] 3); rwa [World.size_alloc] at this
      have hsb : wb.heap.size = w1.heap.size + 2 := by rw [hwb]; simp
      have HWB := Lib.hid hwb
      clear hwb
      gi_wp2_with (fail)
      rw [← HWB.out]
      refine ⟨trivial, (callsIn_wide.2 (netAll_c n wb)).mono ?_⟩
      rintro e w2 ⟨f, rfl, ⟨gf, lb, bs, rfl, eg, hbs, hy⟩, hb2⟩
      have hR2 := ((hbb.trans (hb2.mono (by omega))).block w.heap.size (by omega)).trans hR1
      have hwant2 := (hb2.block w1.heap.size (by omega)).trans hwant
      have hib2 := (hb2.block (w1.heap.size + 1) (by omega)).trans hib
      have hrow2 := row_below hrow (hbb.trans (hb2.mono (by omega)))
      have hown : ∀ g, (Value.slice A (compsN n).length c).ownBlock = some g → g < w1.heap.size := fun g hg => (World.ownsRow.lt hrow g hg).2
      have hbw : Below w.heap.size w w2 := (hba.trans (hb1.mono hba.size)).trans ((hbb.trans (hb2.mono (by omega))).mono (by omega))
      have hs2 := hb2.size
      have hitl : ∀ p ∈ bs, p.1 < w2.heap.size := fun p hp => (Array.getElem?_eq_some_iff.1 (hbs p hp).2).1
      clear hrow hwant hib hR1 HWB hb1 hbb hb2
      have hlen := compsN_len n
      generalize hcs : compsN n = cs at *
      have HCS := Lib.hid hcs
      clear hcs
      gi_wp2_with (fail)
      rw [nil12]
      gi_wp2_with (fail)
      refine wpIn_rangeFunc_z (F := Fence.wide) (n := 9) rfl (by decide) (gf := gf) rfl trivial eg hy (fun _ => rfl)
        (fun k W => LoopC w (w2.heap.size + 2) [(w1.heap.size + 1, .int .i64 k, 3), (w1.heap.size, .slice A cs.length c, 25), (w.heap.size, .bool false, 4)] (w.alloc (.cells #[.bool false] 4)).heap.size (.slice A cs.length c) cs bs w1.heap.size w2.heap.size W)
        (fun k W => LoopC w (w2.heap.size + 2) [(w1.heap.size + 1, .int .i64 k, 3), (w1.heap.size, .slice A cs.length c, 25), (w.heap.size, .bool false, 4)] (w.alloc (.cells #[.bool false] 4)).heap.size (.slice A cs.length c) cs bs w1.heap.size w2.heap.size W)
        (fun _ _ => False) ?hI (fun _ _ _ h => h) ?h0 ?hpre ?hst ?hfi (fun _ _ _ _ h => h.elim)
        (fun k a' W => LoopC w (w2.heap.size + 2) [(w1.heap.size + 1, .int .i64 k, 3), (w1.heap.size, .slice A cs.length c, 25), (w.heap.size, .bool false, 4)] (w.alloc (.cells #[.bool false] 4)).heap.size (.slice A cs.length c) cs bs w1.heap.size w2.heap.size W ∧
          ∃ cb, w2.heap.size + 2 ≤ cb ∧ W.heap[cb]? = some (.cells #[.int .i64 ((cs.getD k (0, 0)).1 : Nat), .int .i64 ((cs.getD k (0, 0)).2 : Nat)] 31) ∧ a' = { tmps := #[.int .i64 n, undef, .pointer (some { block := w.heap.size, off := 0 }), .pointer (some { block := w1.heap.size, off := 0 }), .pointer (some { block := w1.heap.size + 1, off := 0 }), .func (.func gf) #[] lb, .pointer (some { block := cb, off := 0 }), .int .i64 n, .bool true, .bool true, .int .i64 n, .bool false, .bool false, undef, .int .i64 n, .slice A cs.length c, .int .i64 n, .func (.func gf) #[] lb, .func (.func gf) #[] lb, .bool false, .func (.func gf) #[] lb, .agg #[.int .i64 ((cs.getD k (0, 0)).1 : Nat), .int .i64 ((cs.getD k (0, 0)).2 : Nat)], undef, undef, undef, undef, undef, undef, undef, undef, undef, undef, undef, undef, undef, undef, undef, undef, undef, undef, undef, undef, undef, undef, undef, undef, undef, undef, undef, undef, undef, undef, undef, undef, undef, undef, undef, undef, undef, undef, undef], defers := [] }) ?hAx ?assign ?body ?done ?stop
      case hI => exact fun k W o h => h.put (by omega) (by simp; omega) (by omega) (by omega) o
      case h0 =>
        refine fun o => ⟨In.start hbw ?_ rfl _ _, row_below hrow2 (((Below.refl _ _).alloc (Nat.le_refl _) _).alloc (by simp) _), hown, fun p hp => ?_, hitl⟩
        · simp only [List.forall_mem_cons, List.not_mem_nil, false_imp_iff, implies_true, and_true]
          exact ⟨⟨by omega, hib2⟩, ⟨by omega, hwant2⟩, by omega, hR2⟩
        · have hb3 : Below w2.heap.size w2 ((w2.alloc (.deferred (some []))).alloc o) := ((Below.refl _ _).alloc (Nat.le_refl _) _).alloc (by simp) _
          exact (hb3.block p.1 (hitl p hp)).trans (hbs p hp).2
      case hpre => exact fun k W h => h.its
      case hst => exact fun k W W' _ hlt h hs => ⟨Same2.of_below hs hlt, h.below hs⟩
      case hfi => exact fun W W' hlt h hs => ⟨Same2.of_below hs hlt, h.below hs⟩
      case hAx =>
        rintro k a' W o ⟨h, cb, hcb, hh, rfl⟩
        exact ⟨h.put (by omega) (by simp; omega) (by omega) (by omega) o, cb, hcb, (World.putObj_heap_other (by omega)).trans hh, rfl⟩
      case assign =>
        intro l k W K hk hlt h hK
        have hsz := h.inn.size
        dsimp only [cmpV]
        obtain ⟨p, hp⟩ : ∃ p, p = cs.getD k (0, 0) := ⟨_, rfl⟩
        rw [← hp]
        have HP := Lib.hid hp
        clear hp
        gi_wp2
        refine hK _ _ (Same2.of_below ((Below.refl _ _).alloc (Nat.le_refl _) _) hlt) ⟨h.below ((Below.refl _ _).alloc (Nat.le_refl _) _), W.heap.size, hsz, ?_, ?_⟩
        · rw [← HP.out]; exact heap_alloc_new W _
        · rw [← HP.out]
      case body =>
        rintro l k a' W hk hlt ⟨h, cb, hcb, hh, rfl⟩
        obtain ⟨ci, fi⟩ := h.inn.b0
        obtain ⟨cw, _⟩ := h.inn.b1
        obtain ⟨c0, c1⟩ := cells_two hh
        obtain ⟨g, c', e, k1, k2⟩ := row_pair h.row hk
        injection e with e1 _ e2
        subst e1 e2
        rw [show cs.getD k (0, 0) = cs[k]'hk by simp [hk]] at c0 c1
        generalize cs[k]'hk = p at c0 c1 k1 k2
        have d0 : decide (cs.length ≤ k) = false := decide_eq_false (by omega)
        have d1 : ((p.1 : Int) != (p.1 : Int)) = false := by simp
        have d2 : ((p.2 : Int) != (p.2 : Int)) = false := by simp
        gi_wp2
        refine quiet_round (by kernel_rfl) (by kernel_rfl) (by kernel_rfl) (fun _ _ h => h) ?_
        repeat (go_big_quiet_step (fail))

        refine wpQuiet_nil ?_
        intro _ hw'
        obtain ⟨nq, hw''⟩ := hw'
        subst hw''
        gi_wp2
        rw [show (k : Int) + 1 = ((k + 1 : Nat) : Int) from rfl]
        have hbW : Below W.heap.size W (W.drewN nq) := below_drewN' (Below.refl _ _) nq
        exact ⟨(Same2.of_below hbW hlt).trans (same2_set (by omega) (by omega)), (h.below hbW).set (by simp; omega) (by omega) (fun q hq => by have := (hbs q hq).1; omega) _⟩
      case done =>
        intro W h hK
        obtain ⟨ci, fi⟩ := h.inn.b0
        obtain ⟨cw, _⟩ := h.inn.b1
        obtain ⟨cr, fr⟩ := h.inn.b2
        gi_wp2_with (fail)
        refine wpIn_wide.2 (wp_region_noPanic ?_)
        have hBW := h.inn.moved.below (Below.refl _ w) (fun _ h => h.elim) (Nat.le_refl _)
        have hwW := hw.below hBW
        have HC : ∀ w', Calls Tryd.prog 16 #[.int .i64 n] w' fun e w'' => ∃ v, e = .returned v ∧ RowT w'.heap.size w' w'' v cs := fun w' => by rw [← HCS.out]; exact netComparators_c n w'
        go_region_law (first
          | (go_simp; go_at_call 9; refine (alive12_any _ hwW.drew).mono ?_; rintro e w5 ⟨rfl, hb5⟩; have hq5 := (below_drewN' (Below.refl _ W) 1).trans hb5; have h5 := h.below hq5; obtain ⟨ci5, fi5⟩ := h5.inn.b0; obtain ⟨cw5, fw5⟩ := h5.inn.b1; obtain ⟨cr5, fr5⟩ := h5.inn.b2)
          | (go_simp; go_at_call 16; refine (HC _).mono ?_; rintro e w6 ⟨v6, rfl, hrow6, hb6⟩; have h6 := h5.below hb6; obtain ⟨ci6, fi6⟩ := h6.inn.b0; obtain ⟨cw6, fw6⟩ := h6.inn.b1; obtain ⟨cr6, fr6⟩ := h6.inn.b2)
          | (go_simp; go_at_call 15; refine (same12_yes _ _ _ _ cs _ hrow6 h6.row hlen).mono ?_; rintro e w7 ⟨rfl, hb7⟩; have h7 := h6.below hb7; obtain ⟨ci7, fi7⟩ := h7.inn.b0; obtain ⟨cw7, fw7⟩ := h7.inn.b1; obtain ⟨cr7, fr7⟩ := h7.inn.b2))
        all_goals (
          have hq7 := hq5.trans ((hb6.trans (hb7.mono hb6.size)).mono hq5.size)
          have hK7 : (w7.setCell ⟨w.heap.size, 0, none⟩ (.bool true)).heap[w2.heap.size]? = some (.deferred (some [])) := (Below.heap_setCell _ _ _ _ (by show w2.heap.size ≠ w.heap.size; omega)).trans ((hq7.block _ (Array.getElem?_eq_some_iff.1 hK).1).trans hK)
          have hin7 := ((h7.inn.sub (bx' := [(w.heap.size, .bool false, 4)]) (by simp)).set (by simp) (.bool true)).put (l := w2.heap.size) (by omega) (by simp; omega) (.deferred none)
          have hc := hin7.b0.1
          have hbe := hin7.moved.below (Below.refl _ w) (fun _ h => h.elim) (Nat.le_refl _)
          dsimp only at hc hbe
          simp only [NoPanic]
          gi_wp2
          refine ⟨by simp, .inl ⟨_, _, rfl, run_takeDeferred hK7, ?_⟩⟩
          exact ⟨.bool true, by simp [results, Tryd.results4, go_sem, hc], rfl, hbe⟩)
      case stop =>
        rintro c W h
        exact h.elim
  · have hd : decide (256 < n) = false := decide_eq_false (by omega)
    gi_wp2_with (fail)
    refine ⟨trivial, ?_⟩
    gi_wp2_with (fail)
    refine ⟨trivial, (callsIn_wide.2 (ref12Comparators_any n _)).mono ?_⟩
    rintro e w1 ⟨v, rfl, ⟨hrow, hb1⟩⟩
    obtain ⟨A, c, rfl⟩ := row_form hrow
    have hR1 := (hb1.block w.heap.size (by omega)).trans haR
    have hs1 := hb1.size
    obtain ⟨wb, hwb⟩ : ∃ wb, wb = (w1.alloc (.cells #[.slice A (compsN n).length c] 25)).alloc (.cells #[.int .i64 0] 3) := ⟨_, rfl⟩
    have hbb : Below w1.heap.size w1 wb := by rw [hwb]; exact ((Below.refl _ _).alloc (Nat.le_refl _) _).alloc (by simp) _
    have hwant : wb.heap[w1.heap.size]? = some (.cells #[.slice A (compsN n).length c] 25) := by rw [hwb]; exact (Below.heap_alloc _ _ _ (by simp)).trans (heap_alloc_new w1 _)
    have hib : wb.heap[w1.heap.size + 1]? = some (.cells #[.int .i64 0] 3) := by rw [hwb]; have := heap_alloc_new (w1.alloc (.cells #[.slice A (compsN n).length c] 25)) (.cells #[.int .i64 0] 3); rwa [World.size_alloc] at this
    have hsb : wb.heap.size = w1.heap.size + 2 := by rw [hwb]; simp
    have HWB := Lib.hid hwb
    clear hwb
    gi_wp2_with (fail)
    rw [← HWB.out]
    refine ⟨trivial, (callsIn_wide.2 (netAll_c n wb)).mono ?_⟩
    rintro e w2 ⟨f, rfl, ⟨gf, lb, bs, rfl, eg, hbs, hy⟩, hb2⟩
    have hR2 := ((hbb.trans (hb2.mono (by omega))).block w.heap.size (by omega)).trans hR1
    have hwant2 := (hb2.block w1.heap.size (by omega)).trans hwant
    have hib2 := (hb2.block (w1.heap.size + 1) (by omega)).trans hib
    have hrow2 := row_below hrow (hbb.trans (hb2.mono (by omega)))
    have hown : ∀ g, (Value.slice A (compsN n).length c).ownBlock = some g → g < w1.heap.size := fun g hg => (World.ownsRow.lt hrow g hg).2
    have hbw : Below w.heap.size w w2 := (hba.trans (hb1.mono hba.size)).trans ((hbb.trans (hb2.mono (by omega))).mono (by omega))
    have hs2 := hb2.size
    have hitl : ∀ p ∈ bs, p.1 < w2.heap.size := fun p hp => (Array.getElem?_eq_some_iff.1 (hbs p hp).2).1
    clear hrow hwant hib hR1 HWB hb1 hbb hb2
    have hlen := compsN_len n
    generalize hcs : compsN n = cs at *
    have HCS := Lib.hid hcs
    clear hcs
    gi_wp2_with (fail)
    rw [nil12]
    gi_wp2_with (fail)
    refine wpIn_rangeFunc_z (F := Fence.wide) (n := 9) rfl (by decide) (gf := gf) rfl trivial eg hy (fun _ => rfl)
      (fun k W => LoopC w (w2.heap.size + 2) [(w1.heap.size + 1, .int .i64 k, 3), (w1.heap.size, .slice A cs.length c, 25), (w.heap.size, .bool false, 4)] (w.alloc (.cells #[.bool false] 4)).heap.size (.slice A cs.length c) cs bs w1.heap.size w2.heap.size W)
      (fun k W => LoopC w (w2.heap.size + 2) [(w1.heap.size + 1, .int .i64 k, 3), (w1.heap.size, .slice A cs.length c, 25), (w.heap.size, .bool false, 4)] (w.alloc (.cells #[.bool false] 4)).heap.size (.slice A cs.length c) cs bs w1.heap.size w2.heap.size W)
      (fun _ _ => False) ?hI (fun _ _ _ h => h) ?h0 ?hpre ?hst ?hfi (fun _ _ _ _ h => h.elim)
      (fun k a' W => LoopC w (w2.heap.size + 2) [(w1.heap.size + 1, .int .i64 k, 3), (w1.heap.size, .slice A cs.length c, 25), (w.heap.size, .bool false, 4)] (w.alloc (.cells #[.bool false] 4)).heap.size (.slice A cs.length c) cs bs w1.heap.size w2.heap.size W ∧
        ∃ cb, w2.heap.size + 2 ≤ cb ∧ W.heap[cb]? = some (.cells #[.int .i64 ((cs.getD k (0, 0)).1 : Nat), .int .i64 ((cs.getD k (0, 0)).2 : Nat)] 31) ∧ a' = { tmps := #[.int .i64 n, undef, .pointer (some { block := w.heap.size, off := 0 }), .pointer (some { block := w1.heap.size, off := 0 }), .pointer (some { block := w1.heap.size + 1, off := 0 }), .func (.func gf) #[] lb, .pointer (some { block := cb, off := 0 }), .int .i64 n, .bool false, .bool false, undef, undef, .bool false, undef, .int .i64 n, .slice A cs.length c, .int .i64 n, .func (.func gf) #[] lb, .func (.func gf) #[] lb, .bool false, .func (.func gf) #[] lb, .agg #[.int .i64 ((cs.getD k (0, 0)).1 : Nat), .int .i64 ((cs.getD k (0, 0)).2 : Nat)], undef, undef, undef, undef, undef, undef, undef, undef, undef, undef, undef, undef, undef, undef, undef, undef, undef, undef, undef, undef, undef, undef, undef, undef, undef, undef, undef, undef, undef, undef, undef, undef, undef, undef, undef, undef, undef, undef, undef], defers := [] }) ?hAx ?assign ?body ?done ?stop
    case hI => exact fun k W o h => h.put (by omega) (by simp; omega) (by omega) (by omega) o
    case h0 =>
      refine fun o => ⟨In.start hbw ?_ rfl _ _, row_below hrow2 (((Below.refl _ _).alloc (Nat.le_refl _) _).alloc (by simp) _), hown, fun p hp => ?_, hitl⟩
      · simp only [List.forall_mem_cons, List.not_mem_nil, false_imp_iff, implies_true, and_true]
        exact ⟨⟨by omega, hib2⟩, ⟨by omega, hwant2⟩, by omega, hR2⟩
      · have hb3 : Below w2.heap.size w2 ((w2.alloc (.deferred (some []))).alloc o) := ((Below.refl _ _).alloc (Nat.le_refl _) _).alloc (by simp) _
        exact (hb3.block p.1 (hitl p hp)).trans (hbs p hp).2
    case hpre => exact fun k W h => h.its
    case hst => exact fun k W W' _ hlt h hs => ⟨Same2.of_below hs hlt, h.below hs⟩
    case hfi => exact fun W W' hlt h hs => ⟨Same2.of_below hs hlt, h.below hs⟩
    case hAx =>
      rintro k a' W o ⟨h, cb, hcb, hh, rfl⟩
      exact ⟨h.put (by omega) (by simp; omega) (by omega) (by omega) o, cb, hcb, (World.putObj_heap_other (by omega)).trans hh, rfl⟩
    case assign =>
      intro l k W K hk hlt h hK
      have hsz := h.inn.size
      dsimp only [cmpV]
      obtain ⟨p, hp⟩ : ∃ p, p = cs.getD k (0, 0) := ⟨_, rfl⟩
      rw [← hp]
      have HP := Lib.hid hp
      clear hp
      gi_wp2
      refine hK _ _ (Same2.of_below ((Below.refl _ _).alloc (Nat.le_refl _) _) hlt) ⟨h.below ((Below.refl _ _).alloc (Nat.le_refl _) _), W.heap.size, hsz, ?_, ?_⟩
      · rw [← HP.out]; exact heap_alloc_new W _
      · rw [← HP.out]
    case body =>
      rintro l k a' W hk hlt ⟨h, cb, hcb, hh, rfl⟩
      obtain ⟨ci, fi⟩ := h.inn.b0
      obtain ⟨cw, _⟩ := h.inn.b1
      obtain ⟨c0, c1⟩ := cells_two hh
      obtain ⟨g, c', e, k1, k2⟩ := row_pair h.row hk
      injection e with e1 _ e2
      subst e1 e2
      rw [show cs.getD k (0, 0) = cs[k]'hk by simp [hk]] at c0 c1
      generalize cs[k]'hk = p at c0 c1 k1 k2
      have d0 : decide (cs.length ≤ k) = false := decide_eq_false (by omega)
      have d1 : ((p.1 : Int) != (p.1 : Int)) = false := by simp
      have d2 : ((p.2 : Int) != (p.2 : Int)) = false := by simp
      gi_wp2
      refine quiet_round (by kernel_rfl) (by kernel_rfl) (by kernel_rfl) (fun _ _ h => h) ?_
      repeat (go_big_quiet_step (fail))

      refine wpQuiet_nil ?_
      intro _ hw'
      obtain ⟨nq, hw''⟩ := hw'
      subst hw''
      gi_wp2
      rw [show (k : Int) + 1 = ((k + 1 : Nat) : Int) from rfl]
      have hbW : Below W.heap.size W (W.drewN nq) := below_drewN' (Below.refl _ _) nq
      exact ⟨(Same2.of_below hbW hlt).trans (same2_set (by omega) (by omega)), (h.below hbW).set (by simp; omega) (by omega) (fun q hq => by have := (hbs q hq).1; omega) _⟩
    case done =>
      intro W h hK
      obtain ⟨ci, fi⟩ := h.inn.b0
      obtain ⟨cw, _⟩ := h.inn.b1
      obtain ⟨cr, fr⟩ := h.inn.b2
      gi_wp2_with (fail)
      refine wpIn_wide.2 (wp_region_noPanic ?_)
      have hBW := h.inn.moved.below (Below.refl _ w) (fun _ h => h.elim) (Nat.le_refl _)
      have hwW := hw.below hBW
      have HC : ∀ w', Calls Tryd.prog 16 #[.int .i64 n] w' fun e w'' => ∃ v, e = .returned v ∧ RowT w'.heap.size w' w'' v cs := fun w' => by rw [← HCS.out]; exact netComparators_c n w'
      go_region_law (first
        | (go_simp; go_at_call 9; refine (alive12_any _ hwW.drew).mono ?_; rintro e w5 ⟨rfl, hb5⟩; have hq5 := (below_drewN' (Below.refl _ W) 1).trans hb5; have h5 := h.below hq5; obtain ⟨ci5, fi5⟩ := h5.inn.b0; obtain ⟨cw5, fw5⟩ := h5.inn.b1; obtain ⟨cr5, fr5⟩ := h5.inn.b2)
        | (go_simp; go_at_call 16; refine (HC _).mono ?_; rintro e w6 ⟨v6, rfl, hrow6, hb6⟩; have h6 := h5.below hb6; obtain ⟨ci6, fi6⟩ := h6.inn.b0; obtain ⟨cw6, fw6⟩ := h6.inn.b1; obtain ⟨cr6, fr6⟩ := h6.inn.b2)
        | (go_simp; go_at_call 15; refine (same12_yes _ _ _ _ cs _ hrow6 h6.row hlen).mono ?_; rintro e w7 ⟨rfl, hb7⟩; have h7 := h6.below hb7; obtain ⟨ci7, fi7⟩ := h7.inn.b0; obtain ⟨cw7, fw7⟩ := h7.inn.b1; obtain ⟨cr7, fr7⟩ := h7.inn.b2))
      all_goals (
        have hq7 := hq5.trans ((hb6.trans (hb7.mono hb6.size)).mono hq5.size)
        have hK7 : (w7.setCell ⟨w.heap.size, 0, none⟩ (.bool true)).heap[w2.heap.size]? = some (.deferred (some [])) := (Below.heap_setCell _ _ _ _ (by show w2.heap.size ≠ w.heap.size; omega)).trans ((hq7.block _ (Array.getElem?_eq_some_iff.1 hK).1).trans hK)
        have hin7 := ((h7.inn.sub (bx' := [(w.heap.size, .bool false, 4)]) (by simp)).set (by simp) (.bool true)).put (l := w2.heap.size) (by omega) (by simp; omega) (.deferred none)
        have hc := hin7.b0.1
        have hbe := hin7.moved.below (Below.refl _ w) (fun _ h => h.elim) (Nat.le_refl _)
        dsimp only at hc hbe
        simp only [NoPanic]
        gi_wp2
        refine ⟨by simp, .inl ⟨_, _, rfl, run_takeDeferred hK7, ?_⟩⟩
        exact ⟨.bool true, by simp [results, Tryd.results4, go_sem, hc], rfl, hbe⟩)
    case stop =>
      rintro c W h
      exact h.elim
end Go.Proofs.YthcckgehlfikcaaDoor
