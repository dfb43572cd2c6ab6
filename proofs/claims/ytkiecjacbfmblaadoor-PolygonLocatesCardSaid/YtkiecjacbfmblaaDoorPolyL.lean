/-
  Contracts of package polygon over the landed code: Locate. (Written by polygon.py.)
-/
import Derived.Test.YtkiecjacbfmblaaDoorPolyA
import Derived.Test.YtkiecjacbfmblaaDoorTail
namespace Go.Proofs.YtkiecjacbfmblaaDoor
open Go.RowKit Go.Maps Go.Shelf
set_option maxRecDepth 100000
set_option linter.unusedVariables false
set_option linter.unusedSimpArgs false
attribute [local go_sem] Oper.semAt_some

theorem zero_x (x : Int) (hx : -1 ≤ x ∧ x ≤ 1) (w : World) (hw : Wts w) : Calls Tryd.prog 28 #[.int .u64 (IntKind.u64.wrap x)] w fun e w' => e = .returned (.int .u64 (mk (decide (x = 0)))) ∧ Below w.heap.size w w' := by
  have h : x = -1 ∨ x = 0 ∨ x = 1 := by omega
  obtain ⟨h1, h2⟩ := wrap_sgn h
  refine (zero_b _ h1 w hw).mono ?_
  rintro e w' ⟨rfl, hb⟩
  exact ⟨by rw [decide_eq_decide.2 h2], hb⟩
/-- What has been seen below k. -/
def outB (l : List Pt) (p : Pt) (k : Nat) : Bool := (sides l p k).any fun x => decide (x < 0)
def bdB (l : List Pt) (p : Pt) (k : Nat) : Bool := (sides l p k).any fun x => decide (x = 0)
theorem outB_succ (l : List Pt) (p : Pt) (k : Nat) : outB l p (k + 1) = (outB l p k || decide (orP l * side l k p < 0)) := by unfold outB; rw [sides_succ, List.any_append]; simp
theorem bdB_succ (l : List Pt) (p : Pt) (k : Nat) : bdB l p (k + 1) = (bdB l p k || decide (orP l * side l k p = 0)) := by unfold bdB; rw [sides_succ, List.any_append]; simp
theorem cells_pt {w : World} {b : Nat} {u v : Value} {t : TypeId} (h : w.heap[b]? = some (.cells #[u, v] t (0, 0))) : w.cell? ⟨b, 0, none⟩ = some u ∧ w.cell? ⟨b, 1, none⟩ = some v := by
  constructor <;> simp [World.cell?, h]
theorem addT_zero_ {w : World} {T : Nat → Prop} {v : Value} {l : List Ev} (h : TapeO w T v l) {kind : Int} : addT v l (evR kind 0) = l := by
  rcases h with ⟨rfl, rfl⟩ | ⟨tb, rfl, _⟩
  · rfl
  · simp [addT, evR]
theorem side_in_ (l : List Pt) (i : Nat) (p : Pt) : side l i p = -1 ∨ side l i p = 0 ∨ side l i p = 1 := sgn_in _ _ _
theorem mul_in_ {s r : Int} (hs : s = -1 ∨ s = 0 ∨ s = 1) (hr : r = -1 ∨ r = 0 ∨ r = 1) : -1 ≤ s * r ∧ s * r ≤ 1 := by
  rcases hs with rfl | rfl | rfl <;> rcases hr with rfl | rfl | rfl <;> decide
theorem sgn_loc (l : List Pt) (p : Pt) (h : isP l = true) : sgn3 (mk (outB l p l.length)) (mk (bdB l p l.length)) = locP l p := by
  unfold locP
  rw [if_pos h]
  have hin : ∀ x ∈ sides l p l.length, -1 ≤ x ∧ x ≤ 1 := fun x hx => by
    obtain ⟨i, _, rfl⟩ := mem_sides.1 hx
    exact mul_in_ (or_in l) (side_in_ l i p)
  unfold outB bdB
  generalize sides l p l.length = L at hin
  by_cases h1 : L.any (fun x => decide (x < 0)) = true
  · obtain ⟨x, hx, hx2⟩ := List.any_eq_true.1 h1
    have hx3 : x = -1 := by have := hin x hx; simp at hx2; omega
    rw [h1, minL_eq (m := -1) (by decide) (fun y hy => (hin y hy).1) (.inr (hx3 ▸ hx))]
    cases L.any (fun x => decide (x = 0)) <;> decide +kernel
  · have h2 : L.any (fun x => decide (x < 0)) = false := by simpa using h1
    have h3 : ∀ x ∈ L, 0 ≤ x := fun x hx => by
      have h4 := List.any_eq_false.1 h2 x hx
      simpa using h4
    rw [h2]
    by_cases h4 : L.any (fun x => decide (x = 0)) = true
    · obtain ⟨x, hx, hx2⟩ := List.any_eq_true.1 h4
      have hx3 : x = 0 := by simpa using hx2
      rw [h4, minL_eq (m := 0) (by decide) h3 (.inr (hx3 ▸ hx))]
      decide +kernel
    · have h5 : L.any (fun x => decide (x = 0)) = false := by rwa [Bool.not_eq_true] at h4
      rw [h5, minL_eq (m := 1) (by decide) (fun x hx => by have h6 := List.any_eq_false.1 h5 x hx; have := h3 x hx; simp only [decide_eq_true_eq] at h6; omega) (.inl rfl)]
      decide +kernel
theorem U_mkB (b : Bool) : U (mk b) := by cases b <;> exact ⟨by decide, by decide⟩
set_option maxHeartbeats 4000000 in
theorem polyLocate_c (tv : Value) (evs : List Ev) (T Q : Nat → Prop) (A : Option Addr) (n c : Nat) (l : List Pt) (p : Pt) (r : Int) (w : World) (hw : ∀ W, Moved T w W → Wts W) (ht : TapeO w T tv evs) (he : evs.length ≤ 500000) (ha : RowR w Q 2 ptC A l) (hQT : ∀ b, Q b → ¬ T b) (hn : n = l.length) (hl : n ≤ 1000000) (hS : SsP l) (hp : S p.x ∧ S p.y) (hr : locP l p = r) :
    Calls Tryd.prog 15 #[tv, .slice A n c, .agg #[.int .i64 p.x, .int .i64 p.y]] w fun e w' => e = .returned (.int .i64 r) ∧ TapeO w' (fun g => T g ∨ w.heap.size ≤ g) tv (addT tv evs (locateE n)) ∧ Moved T w w' := by
  have HN := Lib.hid hn
  obtain ⟨tp, rfl⟩ : ∃ tp, tv = .pointer tp := by rcases ht with ⟨rfl, _⟩ | ⟨tb, rfl, _⟩ <;> exact ⟨_, rfl⟩
  obtain ⟨os, hos⟩ : ∃ os : List Obj, os = [.cells #[.pointer tp] 35, .cells #[.slice A n c] 22, .cells #[.int .i64 p.x, .int .i64 p.y] 31] := ⟨_, rfl⟩
  obtain ⟨W0, hW0⟩ : ∃ W0, W0 = allocs w os := ⟨_, rfl⟩
  have hsz : W0.heap.size = w.heap.size + 3 := by rw [hW0, allocs_size, hos]; rfl
  have hbw : Below w.heap.size w W0 := by rw [hW0]; exact allocs_below os w
  have a0 : W0.heap[w.heap.size]? = some (.cells #[.pointer tp] 35) := by have := allocs_at os w 0 (by rw [hos]; simp); rw [hW0]; rw [hos] at this ⊢; exact this
  have a1 : W0.heap[w.heap.size + 1]? = some (.cells #[.slice A n c] 22) := by have := allocs_at os w 1 (by rw [hos]; simp); rw [hW0]; rw [hos] at this ⊢; exact this
  have a2 : W0.heap[w.heap.size + 1 + 1]? = some (.cells #[.int .i64 p.x, .int .i64 p.y] 31) := by have := allocs_at os w 2 (by rw [hos]; simp); rw [hW0]; rw [hos] at this ⊢; exact this
  have HW := Lib.hid (show allocs w [.cells #[.pointer tp] 35, .cells #[.slice A n c] 22, .cells #[.int .i64 p.x, .int .i64 p.y] 31] = W0 by rw [hW0, hos])
  obtain ⟨c1, _⟩ := cells_one a1
  clear hW0 hos hn
  refine (callsIn_wide (n := 9)).1 ?_
  refine callsIn_of_wp_marks Tryd.func15 rfl trivial ?_ rfl
  simp only [Tryd.ntmps15, List.size_toArray, List.length_cons, List.length_nil, Nat.reduceAdd, Nat.reduceSub, Array.replicate_succ, Array.replicate_zero, List.push_toArray, List.append_toArray, List.nil_append, List.cons_append]
  gi_wp2_with (fail)
  refine ⟨trivial, ?_⟩
  change CallsIn _ _ _ _ _ (allocs w [.cells #[.pointer tp] 35, .cells #[.slice A n c] 22, .cells #[.int .i64 p.x, .int .i64 p.y] 31]) _
  rw [HW.out]
  cases ho : okN n with
  | false =>
    refine (callsIn_wide.2 (isPoly_any A c n false W0 hl ho)).mono ?_
    rintro e w1 ⟨rfl, hw1⟩
    obtain rfl := hw1.symm
    have HR := Lib.hid (show r = -1 by rw [← hr]; unfold locP; rw [← okN_isP, ← HN.out, ho]; rfl)
    have HE := Lib.hid (show locateE n = [] by unfold locateE; rw [ho]; rfl)
    have HT := Lib.hid ht
    clear hr ho ht ha hS
    gi_wp2
    exact ⟨_, results_tmp rfl _ _ _, by rw [HR.out]; rfl, by rw [HE.out, addT_nil HT.out]; exact (HT.out.next hbw).imp fun g hg => .inl hg, .of_below hbw⟩
  | true =>
    refine (callsIn_wide.2 (isPoly_any A c n true W0 hl ho)).mono ?_
    rintro e w1 ⟨rfl, hw1⟩
    obtain rfl := hw1.symm
    obtain ⟨h3, h64⟩ := (okN_iff n).1 ho
    have HO := Lib.hid ho
    have HE := Lib.hid (show locateE n = evR 5 n by unfold locateE; rw [if_pos ho])
    have HR := Lib.hid (show sgn3 (mk (outB l p n)) (mk (bdB l p n)) = r by rw [HN.out, sgn_loc l p (by rw [← okN_isP, ← HN.out]; exact ho)]; exact hr)
    obtain ⟨s, hs⟩ : ∃ s, orP l = s := ⟨_, rfl⟩
    have HS := Lib.hid hs
    have hs1 : s = -1 ∨ s = 0 ∨ s = 1 := by rw [← hs]; exact or_in l
    obtain ⟨b, o, rfl, hz1, hz2, hz3⟩ := ha.pt_ (k := 0) (by rw [← HN.out]; omega)
    clear hr ho hs hz1 hz2 hz3
    gi_wp2_with (fail)
    refine ⟨trivial, (callsIn_wide.2 (polyOr_c (some ⟨b, o, none⟩) n c l s _ W0 (hw W0 (.of_below hbw)) (ha.next hbw) HN.out hl hS HS.out)).mono ?_⟩
    rintro e w1 ⟨rfl, hb1⟩
    obtain ⟨g, hg⟩ : ∃ g, g = w1.heap.size := ⟨_, rfl⟩
    have hgs : w.heap.size + 3 ≤ g := by have := hb1.size; omega
    have b0 := (hb1.block _ (by omega)).trans a0
    have b1 := (hb1.block _ (by omega)).trans a1
    have b2 := (hb1.block _ (by omega)).trans a2
    obtain ⟨os1, hos1⟩ : ∃ os : List Obj, os = [.cells #[.int .i64 s] 2, .cells #[.int .u64 0] 24, .cells #[.int .u64 0] 24] := ⟨_, rfl⟩
    obtain ⟨W2, hW2⟩ : ∃ W2, W2 = allocs w1 os1 := ⟨_, rfl⟩
    have hsz2 : W2.heap.size = g + 3 := by rw [hW2, allocs_size, hos1, hg]; rfl
    have hb2 : Below g w1 W2 := by rw [hW2, hg]; exact allocs_below os1 w1
    have d0 : W2.heap[g]? = some (.cells #[.int .i64 s] 2) := by have := allocs_at os1 w1 0 (by rw [hos1]; simp); rw [hW2, hg]; rw [hos1] at this ⊢; exact this
    have d1 : W2.heap[g + 1]? = some (.cells #[.int .u64 0] 24) := by have := allocs_at os1 w1 1 (by rw [hos1]; simp); rw [hW2, hg]; rw [hos1] at this ⊢; exact this
    have d2 : W2.heap[g + 1 + 1]? = some (.cells #[.int .u64 0] 24) := by have := allocs_at os1 w1 2 (by rw [hos1]; simp); rw [hW2, hg]; rw [hos1] at this ⊢; exact this
    have e0 := (hb2.block _ (by omega)).trans b0
    have e1 := (hb2.block _ (by omega)).trans b1
    have e2 := (hb2.block _ (by omega)).trans b2
    have HW2 := Lib.hid (show allocs w1 [.cells #[.int .i64 s] 2, .cells #[.int .u64 0] 24, .cells #[.int .u64 0] 24] = W2 by rw [hW2, hos1])
    have hbW2 : Below w.heap.size w W2 := hbw.trans ((hb1.mono (by omega)).trans (hb2.mono (by omega)))
    obtain ⟨W3, hW3⟩ : ∃ W3, W3 = W2.alloc (.cells #[.slice (some ⟨b, o, none⟩) n c] 22) := ⟨_, rfl⟩
    have hsz3 : W3.heap.size = g + 4 := by rw [hW3, World.size_alloc, hsz2]
    have hb3 : Below W2.heap.size W2 W3 := by rw [hW3]; exact (Below.refl _ _).alloc (Nat.le_refl _) _
    have f3 : W3.heap[g + 1 + 1 + 1]? = some (.cells #[.slice (some ⟨b, o, none⟩) n c] 22) := by rw [hW3]; have := heap_alloc_new W2 (.cells #[.slice (some ⟨b, o, none⟩) n c] 22); rwa [hsz2] at this
    have k0 := (hb3.block _ (by omega)).trans e0
    have k1 := (hb3.block _ (by omega)).trans e1
    have k2 := (hb3.block _ (by omega)).trans e2
    have j0 := (hb3.block _ (by omega)).trans d0
    have j1 := (hb3.block _ (by omega)).trans d1
    have j2 := (hb3.block _ (by omega)).trans d2
    have hbW3 : Below w.heap.size w W3 := hbW2.trans (hb3.mono (by omega))
    have HW3 := Lib.hid hW3.symm
    have c1' : (((w1.alloc (.cells #[.int .i64 s] 2)).alloc (.cells #[.int .u64 0] 24)).alloc (.cells #[.int .u64 0] 24)).cell? ⟨w.heap.size + 1, 0, none⟩ = some (.slice (some ⟨b, o, none⟩) n c) := by
      have := (cells_one e1).1
      rw [← HW2.out] at this
      exact this
    have HG := Lib.hid hg
    clear c1 hW2 hos1 hW3 b0 b1 b2 a0 a1 a2 d0 d1 d2 e0 e1 e2 hg os1
    gi_wp2_with (fail)
    refine ⟨trivial, ?_⟩
    change CallsIn _ _ _ _ _ (allocs w1 [.cells #[.int .i64 s] 2, .cells #[.int .u64 0] 24, .cells #[.int .u64 0] 24]) _
    rw [HW2.out, ← HG.out]
    refine (callsIn_wide.2 (edges_any (some ⟨b, o, none⟩) n c W2)).mono ?_
    rintro e w3 ⟨rfl, hw3⟩
    rw [HW3.out] at hw3
    obtain rfl := hw3.symm
    rw [hsz2]
    clear c1'
    gi_wp2_with (fail)
    refine wpIn_rangeFunc_y (F := Fence.wide) rfl (by decide) (gf := 45) rfl trivial (enters_of Tryd.func45 (by kernel_rfl) rfl)
      (edges_yes (g + 1 + 1 + 1) (some ⟨b, o, none⟩) n c HO.out) (fun _ => rfl)
      (fun k W => Lp w T (.pointer tp) (addT (.pointer tp) evs (evR 5 k)) (g + 6) [(g + 1, .cells #[.int .u64 (mk (outB l p k))] 24), (g + 1 + 1, .cells #[.int .u64 (mk (bdB l p k))] 24), (g, .cells #[.int .i64 s] 2), (w.heap.size, .cells #[.pointer tp] 35), (w.heap.size + 1, .cells #[.slice (some ⟨b, o, none⟩) n c] 22), (w.heap.size + 1 + 1, .cells #[.int .i64 p.x, .int .i64 p.y] 31), (g + 1 + 1 + 1, .cells #[.slice (some ⟨b, o, none⟩) n c] 22)] W)
      (fun k W => Lp w T (.pointer tp) (addT (.pointer tp) evs (evR 5 k)) (g + 6) [(g + 1, .cells #[.int .u64 (mk (outB l p k))] 24), (g + 1 + 1, .cells #[.int .u64 (mk (bdB l p k))] 24), (g, .cells #[.int .i64 s] 2), (w.heap.size, .cells #[.pointer tp] 35), (w.heap.size + 1, .cells #[.slice (some ⟨b, o, none⟩) n c] 22), (w.heap.size + 1 + 1, .cells #[.int .i64 p.x, .int .i64 p.y] 31), (g + 1 + 1 + 1, .cells #[.slice (some ⟨b, o, none⟩) n c] 22)] W)
      (fun _ _ => False) ?hI ?hIm (fun _ _ _ h => h) ?h0 ?hpre ?hst ?hfi (fun _ _ _ _ h => h.elim)
      (fun k => { tmps := #[.pointer tp, .slice (some ⟨b, o, none⟩) n c, .agg #[.int .i64 p.x, .int .i64 p.y], .pointer (some ⟨w.heap.size, 0, none⟩), .pointer (some ⟨w.heap.size + 1, 0, none⟩), .pointer (some ⟨w.heap.size + 1 + 1, 0, none⟩), .int .i64 0, .pointer (some ⟨g, 0, none⟩), .pointer (some ⟨g + 1, 0, none⟩), .pointer (some ⟨g + 1 + 1, 0, none⟩), .int .i64 k, .int .i64 (nx n k : Nat), undef, .slice (some ⟨b, o, none⟩) n c, .bool true, .bool false, .slice (some ⟨b, o, none⟩) n c, .int .i64 s, .slice (some ⟨b, o, none⟩) n c, .func (.func 45) #[] #[.pointer (some ⟨g + 1 + 1 + 1, 0, none⟩)], .int .i64 k, .int .i64 (nx n k : Nat), undef, undef, undef, undef, undef, undef, undef, undef, undef, undef, undef, undef, undef, undef, undef, undef, undef, undef, undef, undef, undef, undef, undef, undef, undef, undef, undef], defers := [] }) ?assign ?body ?done ?stop
    case hI => exact fun k W o h => h.put (by omega) (by omega) (by simp; omega) o
    case hIm => exact fun k W o h => h.put (by omega) (by omega) (by simp; omega) o
    case h0 =>
      intro o'
      refine Lp.start (by rw [addT_zero_ ht]; exact ht) hbW3 ?_ (by omega) _ _
      simp only [List.forall_mem_cons, List.not_mem_nil, false_imp_iff, implies_true, and_true]
      exact ⟨⟨by omega, j1⟩, ⟨by omega, j2⟩, ⟨by omega, j0⟩, ⟨by omega, k0⟩, ⟨by omega, k1⟩, ⟨by omega, k2⟩, by omega, f3⟩
    case hpre => exact fun k W h => h.at_ (.tail _ (.tail _ (.tail _ (.tail _ (.tail _ (.tail _ (.head _)))))))
    case hst => exact fun k W W' _ _ h e => e ▸ ⟨Same2.refl _ _, h⟩
    case hfi => exact fun W W' _ h e => e ▸ ⟨Same2.refl _ _, h⟩
    case assign =>
      intro r' k W K hK
      gi_wp2
      exact hK
    case body =>
      rintro r' k W hkn hlt h
      obtain ⟨t0, _⟩ := h.one (b := w.heap.size) (.tail _ (.tail _ (.tail _ (.head _))))
      have hel : (addT (.pointer tp) evs (evR 5 k)).length ≤ 1000000 := by
        have h1 := addT_le (.pointer tp) evs (evR 5 k)
        rw [evR_len] at h1
        omega
      gi_wp2_with (fail)
      refine ⟨trivial, (callsIn_wide.2 (noteO_any (.pointer tp) _ _ 5 k 0 W h.tape hel (by decide) h.noted)).mono ?_⟩
      rintro e W1 ⟨rfl, ht1, hm1⟩
      rw [addT_evR] at ht1
      have h1 := h.step hm1 ht1
      have hs1' : Same2 W3.heap.size W W1 := hm1.same2 (by omega) (by omega) hlt
      have hsz1 := hm1.size
      clear h t0 hel ht1 hm1
      have hwt := hw W1 h1.moved
      obtain ⟨d7, _⟩ := h1.one (b := g) (.tail _ (.tail _ (.head _)))
      obtain ⟨c1, _⟩ := h1.one (b := w.heap.size + 1) (.tail _ (.tail _ (.tail _ (.tail _ (.head _)))))
      obtain ⟨x0, x1⟩ := cells_pt (h1.at_ (b := w.heap.size + 1 + 1) (.tail _ (.tail _ (.tail _ (.tail _ (.tail _ (.head _)))))))
      have hrow := h1.row ha (fun _ => by simp [ptC]) hQT
      obtain ⟨j, hj⟩ : ∃ j, j = nx n k := ⟨_, rfl⟩
      have hjn : j < n := by rw [hj]; exact nx_lt (by omega)
      obtain ⟨p0, p1⟩ := hrow.pt2 (k := k) (by rw [← HN.out]; exact hkn)
      obtain ⟨q0, q1⟩ := hrow.pt2 (k := j) (by rw [← HN.out]; exact hjn)
      have HP := Lib.hid (hS.ss (k := k) (by rw [← HN.out]; exact hkn))
      have HR1 := Lib.hid (hS.ss (k := j) (by rw [← HN.out]; exact hjn))
      have HX := Lib.hid hp
      obtain ⟨q, hq⟩ : ∃ q, side l k p = q := ⟨_, rfl⟩
      have hq1 := side_in_ l k p
      rw [hq] at hq1
      have HQ := Lib.hid (show sgnP (Go.Proofs.YtkiecjacbfmblaaDoor.at_ l k) (Go.Proofs.YtkiecjacbfmblaaDoor.at_ l j) p = q by rw [← hq, hj, HN.out]; rfl)
      obtain ⟨x, hx⟩ : ∃ x, s * q = x := ⟨_, rfl⟩
      have hx1 := mul_in_ hs1 hq1
      rw [hx] at hx1
      have hwr : IntKind.i64.wrap (s * q) = x := by rw [hx]; exact wrap_i64' (by omega) (by omega)
      have Sx : S x := by unfold S; omega
      have HO1 := Lib.hid (show bits .or .u64 (mk (outB l p k)) (mk (decide (x < 0))) = mk (outB l p (k + 1)) by rw [mk_or, outB_succ, HS.out, hq, hx])
      have HB1 := Lib.hid (show bits .or .u64 (mk (bdB l p k)) (mk (decide (x = 0))) = mk (bdB l p (k + 1)) by rw [mk_or, bdB_succ, HS.out, hq, hx])
      rw [← hj]
      clear hj hq hx
      generalize Go.Proofs.YtkiecjacbfmblaaDoor.at_ l k = P at *
      generalize Go.Proofs.YtkiecjacbfmblaaDoor.at_ l j = R at *
      obtain ⟨bo, hbo⟩ : ∃ bo, bo = outB l p k := ⟨_, rfl⟩
      obtain ⟨bd, hbd⟩ : ∃ bd, bd = bdB l p k := ⟨_, rfl⟩
      rw [← hbo] at h1 HO1
      rw [← hbd] at h1 HB1
      have hmx : Tryd.prog.follows .mixedOrders = true := by kernel_rfl
      clear hbo hbd
      gi_wp2
      refine dir_round hmx (by kernel_rfl) (fun _ _ h => h) 13 [[], [], [], [(26, 1), (27, 2)], [(28, 3)], [], [], [(30, 5), (31, 6)], [(32, 7)], [], [(29, 4), (33, 8), (34, 9)], [(25, 0), (35, 10)], [(36, 11)]] [(25, 0), (26, 1), (27, 2), (28, 3), (29, 4), (30, 5), (31, 6), (32, 7), (33, 8), (34, 9), (35, 10), (36, 11), (12, 12)] [
          (fun v _ => v = .int .i64 s),
          (fun v _ => v = .slice (some ⟨b, o, none⟩) n c),
          (fun v _ => v = .int .i64 k),
          (fun v _ => v = .pointer (some ⟨b, (o + k * 2), none⟩)),
          (fun v _ => v = .agg #[.int .i64 P.x, .int .i64 P.y]),
          (fun v _ => v = .slice (some ⟨b, o, none⟩) n c),
          (fun v _ => v = .int .i64 j),
          (fun v _ => v = .pointer (some ⟨b, (o + j * 2), none⟩)),
          (fun v _ => v = .agg #[.int .i64 R.x, .int .i64 R.y]),
          (fun v _ => v = .agg #[.int .i64 p.x, .int .i64 p.y]),
          (fun v _ => v = .int .i64 q),
          (fun v _ => v = .int .i64 x),
          (fun v _ => v = .int .i64 x)
        ] (by kernel_rfl) (by kernel_rfl) (by kernel_rfl) (by decide) ⟨dstab_eq, dstab_eq, dstab_eq, dstab_eq, dstab_eq, dstab_eq, dstab_eq, dstab_eq, dstab_eq, dstab_eq, dstab_eq, dstab_eq, dstab_eq, trivial⟩ ?steps ?fin
      case steps =>
        refine ⟨?_, ?_, ?_, ?_, ?_, ?_, ?_, ?_, ?_, ?_, ?_, ?_, ?_, trivial⟩
        · intro vs g w2 hI hF hR K hK
          simp only [Facts, fill, Act.put, z1, z2, z3, z4, z5, Nat.reduceAdd] at hF hR hK ⊢
          have k0 := (hI.cell (lt_of_cell d7)).trans d7
          go_simp
          exact hK _ () _ hI (Below.refl _ _) rfl
        · intro vs g w2 hI hF hR K hK
          simp only [Facts, fill, Act.put, z1, z2, z3, z4, z5, Nat.reduceAdd] at hF hR hK ⊢
          have k0 := (hI.cell (lt_of_cell c1)).trans c1
          go_simp
          exact hK _ () _ hI (Below.refl _ _) rfl
        · intro vs g w2 hI hF hR K hK
          simp only [Facts, fill, Act.put, z1, z2, z3, z4, z5, Nat.reduceAdd] at hF hR hK ⊢
          go_simp
          exact hK _ () _ hI (Below.refl _ _) rfl
        · intro vs g w2 hI hF hR K hK
          simp only [Facts, fill, Act.put, z1, z2, z3, z4, z5, Nat.reduceAdd] at hF hR hK ⊢
          obtain ⟨r1, r2, -⟩ := hR
          generalize vs 1 = x1, vs 2 = x2 at *
          subst r1 r2
          go_simp
          exact hK _ () _ hI (Below.refl _ _) rfl
        · intro vs g w2 hI hF hR K hK
          simp only [Facts, fill, Act.put, z1, z2, z3, z4, z5, Nat.reduceAdd] at hF hR hK ⊢
          obtain ⟨r3, -⟩ := hR
          generalize vs 3 = x3 at *
          subst r3
          have k0 := (hI.cell (lt_of_cell p0)).trans p0
          have k1 := (hI.cell (lt_of_cell p1)).trans p1
          go_simp
          exact hK _ () _ hI (Below.refl _ _) rfl
        · intro vs g w2 hI hF hR K hK
          simp only [Facts, fill, Act.put, z1, z2, z3, z4, z5, Nat.reduceAdd] at hF hR hK ⊢
          have k0 := (hI.cell (lt_of_cell c1)).trans c1
          go_simp
          exact hK _ () _ hI (Below.refl _ _) rfl
        · intro vs g w2 hI hF hR K hK
          simp only [Facts, fill, Act.put, z1, z2, z3, z4, z5, Nat.reduceAdd] at hF hR hK ⊢
          go_simp
          exact hK _ () _ hI (Below.refl _ _) rfl
        · intro vs g w2 hI hF hR K hK
          simp only [Facts, fill, Act.put, z1, z2, z3, z4, z5, Nat.reduceAdd] at hF hR hK ⊢
          obtain ⟨r5, r6, -⟩ := hR
          generalize vs 5 = x5, vs 6 = x6 at *
          subst r5 r6
          go_simp
          exact hK _ () _ hI (Below.refl _ _) rfl
        · intro vs g w2 hI hF hR K hK
          simp only [Facts, fill, Act.put, z1, z2, z3, z4, z5, Nat.reduceAdd] at hF hR hK ⊢
          obtain ⟨r7, -⟩ := hR
          generalize vs 7 = x7 at *
          subst r7
          have k0 := (hI.cell (lt_of_cell q0)).trans q0
          have k1 := (hI.cell (lt_of_cell q1)).trans q1
          go_simp
          exact hK _ () _ hI (Below.refl _ _) rfl
        · intro vs g w2 hI hF hR K hK
          simp only [Facts, fill, Act.put, z1, z2, z3, z4, z5, Nat.reduceAdd] at hF hR hK ⊢
          have k0 := (hI.cell (lt_of_cell x0)).trans x0
          have k1 := (hI.cell (lt_of_cell x1)).trans x1
          go_simp
          exact hK _ () _ hI (Below.refl _ _) rfl
        · intro vs g w2 hI hF hR K hK
          simp only [Facts, fill, Act.put, z1, z2, z3, z4, z5, Nat.reduceAdd] at hF hR hK ⊢
          obtain ⟨r4, r8, r9, -⟩ := hR
          generalize vs 4 = x4, vs 8 = x8, vs 9 = x9 at *
          subst r4 r8 r9
          go_simp
          refine (orSign_d P R p w2 (hwt.below hI) HP.out HR1.out HX.out q HQ.out).mono ?_
          rintro e w3 ⟨rfl, hb⟩
          exact hK _ () _ (hI.trans (hb.mono hI.size)) hb rfl
        · intro vs g w2 hI hF hR K hK
          simp only [Facts, fill, Act.put, z1, z2, z3, z4, z5, Nat.reduceAdd] at hF hR hK ⊢
          obtain ⟨r0, r10, -⟩ := hR
          generalize vs 0 = x0, vs 10 = x10 at *
          subst r0 r10
          have HM := hwr
          go_simp
          exact hK _ () _ hI (Below.refl _ _) rfl
        · intro vs g w2 hI hF hR K hK
          simp only [Facts, fill, Act.put, z1, z2, z3, z4, z5, Nat.reduceAdd] at hF hR hK ⊢
          obtain ⟨r11, -⟩ := hR
          generalize vs 11 = x11 at *
          subst r11
          go_simp
          exact hK _ () _ hI (Below.refl _ _) rfl
      case fin =>
        intro vs w2 hI hR
        have r12 := hR 12 (by decide)
        simp only [fill, Act.put, z1, z2, z3, z4, z5] at r12 ⊢
        clear hR
        generalize vs 12 = x12 at *
        subst r12
        have h2 := h1.next hI
        have hs2 := hs1'.trans (Same2.of_below hI (by have := h1.size; omega))
        have hwt := hw w2 h2.moved
        obtain ⟨d8, _⟩ := h2.one (b := g + 1) (.head _)
        clear d7 c1 x0 x1 p0 p1 q0 q1 hrow h1 hs1' hI
        refine NoPanic.normal ?_
        gi_wp2
        refine dir_round hmx (by kernel_rfl) (fun _ _ h => h) 4 [[], [], [(38, 1)], [(37, 0), (39, 2)], [(40, 3)]] [(37, 0), (38, 1), (39, 2), (40, 3)] [
            (fun v _ => v = .int .u64 (mk bo)),
            (fun v _ => v = .int .i64 x),
            (fun v _ => v = .int .u64 (mk (decide (x < 0)))),
            (fun v _ => v = .int .u64 (bits .or .u64 (mk bo) (mk (decide (x < 0)))))
          ] (by kernel_rfl) (by kernel_rfl) (by kernel_rfl) (by decide) ⟨dstab_eq, dstab_eq, dstab_eq, dstab_eq, trivial⟩ ?steps ?fin
        case steps =>
          refine ⟨?_, ?_, ?_, ?_, trivial⟩
          · intro vs g w2 hI hF hR K hK
            simp only [Facts, fill, Act.put, z1, z2, z3, z4, z5, Nat.reduceAdd] at hF hR hK ⊢
            have k0 := (hI.cell (lt_of_cell d8)).trans d8
            go_simp
            exact hK _ () _ hI (Below.refl _ _) rfl
          · intro vs g w2 hI hF hR K hK
            simp only [Facts, fill, Act.put, z1, z2, z3, z4, z5, Nat.reduceAdd] at hF hR hK ⊢
            go_simp
            exact hK _ () _ hI (Below.refl _ _) rfl
          · intro vs g w2 hI hF hR K hK
            simp only [Facts, fill, Act.put, z1, z2, z3, z4, z5, Nat.reduceAdd] at hF hR hK ⊢
            obtain ⟨r1, -⟩ := hR
            generalize vs 1 = x1 at *
            subst r1
            go_simp
            refine (negative_b x Sx _ (hwt.below hI)).mono ?_
            rintro e w3 ⟨rfl, hb⟩
            exact hK _ () _ (hI.trans (hb.mono hI.size)) hb rfl
          · intro vs g w2 hI hF hR K hK
            simp only [Facts, fill, Act.put, z1, z2, z3, z4, z5, Nat.reduceAdd] at hF hR hK ⊢
            obtain ⟨r0, r2, -⟩ := hR
            generalize vs 0 = x0, vs 2 = x2 at *
            subst r0 r2
            go_simp
            exact hK _ () _ hI (Below.refl _ _) rfl
        case fin =>
          intro vs w2 hI hR
          have r3 := hR 3 (by decide)
          simp only [fill, Act.put, z1, z2, z3, z4, z5] at r3 ⊢
          clear hR
          generalize vs 3 = x3 at *
          subst r3
          have h4 := h2.next hI
          obtain ⟨u0, u1⟩ := h4.one (b := g + 1) (.head _)
          refine wpOps_step rfl rfl ?_
          go_simp
          clear u0 u1
          have h5 := h4.set (by simp; omega) (.int .u64 (bits .or .u64 (mk bo) (mk (decide (x < 0)))))
          have hs5 := (hs2.trans (Same2.of_below hI (by have := h2.size; omega))).trans (same2_set (W := w2) (k := g + 1) (x := .int .u64 (bits .or .u64 (mk bo) (mk (decide (x < 0))))) (by omega) (by omega))
          rw [HO1.out] at h5 hs5 ⊢
          generalize w2.setCell ⟨g + 1, 0, none⟩ (.int .u64 (mk (outB l p (k + 1)))) = w5 at h5 hs5 ⊢
          have h6 := h5.sub (bs' := [(g + 1 + 1, .cells #[.int .u64 (mk bd)] 24), (g + 1, .cells #[.int .u64 (mk (outB l p (k + 1)))] 24), (g, .cells #[.int .i64 s] 2), (w.heap.size, .cells #[.pointer tp] 35), (w.heap.size + 1, .cells #[.slice (some ⟨b, o, none⟩) n c] 22), (w.heap.size + 1 + 1, .cells #[.int .i64 p.x, .int .i64 p.y] 31), (g + 1 + 1 + 1, .cells #[.slice (some ⟨b, o, none⟩) n c] 22)]) (by simp)
          have hwt := hw w5 h6.moved
          obtain ⟨d9, _⟩ := h6.one (b := g + 1 + 1) (.head _)
          clear d8 h4 h5 h2 hs2 hI
          refine NoPanic.normal ?_
          gi_wp2
          refine dir_round hmx (by kernel_rfl) (fun _ _ h => h) 5 [[], [], [(42, 1)], [(43, 2)], [(41, 0), (44, 3)], [(45, 4)]] [(41, 0), (42, 1), (43, 2), (44, 3), (45, 4)] [
              (fun v _ => v = .int .u64 (mk bd)),
              (fun v _ => v = .int .i64 x),
              (fun v _ => v = .int .u64 (IntKind.u64.wrap x)),
              (fun v _ => v = .int .u64 (mk (decide (x = 0)))),
              (fun v _ => v = .int .u64 (bits .or .u64 (mk bd) (mk (decide (x = 0)))))
            ] (by kernel_rfl) (by kernel_rfl) (by kernel_rfl) (by decide) ⟨dstab_eq, dstab_eq, dstab_eq, dstab_eq, dstab_eq, trivial⟩ ?steps ?fin
          case steps =>
            refine ⟨?_, ?_, ?_, ?_, ?_, trivial⟩
            · intro vs g w2 hI hF hR K hK
              simp only [Facts, fill, Act.put, z1, z2, z3, z4, z5, Nat.reduceAdd] at hF hR hK ⊢
              have k0 := (hI.cell (lt_of_cell d9)).trans d9
              go_simp
              exact hK _ () _ hI (Below.refl _ _) rfl
            · intro vs g w2 hI hF hR K hK
              simp only [Facts, fill, Act.put, z1, z2, z3, z4, z5, Nat.reduceAdd] at hF hR hK ⊢
              go_simp
              exact hK _ () _ hI (Below.refl _ _) rfl
            · intro vs g w2 hI hF hR K hK
              simp only [Facts, fill, Act.put, z1, z2, z3, z4, z5, Nat.reduceAdd] at hF hR hK ⊢
              obtain ⟨r1, -⟩ := hR
              generalize vs 1 = x1 at *
              subst r1
              go_simp
              exact hK _ () _ hI (Below.refl _ _) rfl
            · intro vs g w2 hI hF hR K hK
              simp only [Facts, fill, Act.put, z1, z2, z3, z4, z5, Nat.reduceAdd] at hF hR hK ⊢
              obtain ⟨r2, -⟩ := hR
              generalize vs 2 = x2 at *
              subst r2
              go_simp
              refine (zero_x x hx1 _ (hwt.below hI)).mono ?_
              rintro e w3 ⟨rfl, hb⟩
              exact hK _ () _ (hI.trans (hb.mono hI.size)) hb rfl
            · intro vs g w2 hI hF hR K hK
              simp only [Facts, fill, Act.put, z1, z2, z3, z4, z5, Nat.reduceAdd] at hF hR hK ⊢
              obtain ⟨r0, r3, -⟩ := hR
              generalize vs 0 = x0, vs 3 = x3 at *
              subst r0 r3
              go_simp
              exact hK _ () _ hI (Below.refl _ _) rfl
          case fin =>
            intro vs w2 hI hR
            have r4 := hR 4 (by decide)
            simp only [fill, Act.put, z1, z2, z3, z4, z5] at r4 ⊢
            clear hR
            generalize vs 4 = x4 at *
            subst r4
            have h7 := h6.next hI
            obtain ⟨u0, u1⟩ := h7.one (b := g + 1 + 1) (.head _)
            refine wpOps_step rfl rfl ?_
            go_simp
            clear u0 u1
            have h8 := h7.set (by simp; omega) (.int .u64 (bits .or .u64 (mk bd) (mk (decide (x = 0)))))
            have hs8 := (hs5.trans (Same2.of_below hI (by have := h6.size; omega))).trans (same2_set (W := w2) (k := g + 1 + 1) (x := .int .u64 (bits .or .u64 (mk bd) (mk (decide (x = 0))))) (by omega) (by omega))
            rw [HB1.out] at h8 hs8 ⊢
            exact ⟨hs8, h8.sub (by simp)⟩
    case done =>
      rintro W h hK
      obtain ⟨z1, _⟩ := h.one (b := g + 1) (.head _)
      obtain ⟨z2, _⟩ := h.one (b := g + 1 + 1) (.tail _ (.head _))
      have hwt := hw W h.moved
      obtain ⟨x1, hx1⟩ : ∃ x1, x1 = mk (outB l p n) := ⟨_, rfl⟩
      obtain ⟨x2, hx2⟩ : ∃ x2, x2 = mk (bdB l p n) := ⟨_, rfl⟩
      have hU1 : U x1 := by rw [hx1]; exact U_mkB _
      have hU2 : U x2 := by rw [hx2]; exact U_mkB _
      rw [← hx1] at z1
      rw [← hx2] at z2
      have HX := Lib.hid (show sgn3 x1 x2 = r by rw [hx1, hx2]; exact HR.out)
      clear hx1 hx2
      gi_wp2_with (fail)
      refine ⟨trivial, (callsIn_wide.2 (sign_any x1 x2 hU1 hU2 W hwt)).mono ?_⟩
      rintro e w9 ⟨rfl, z, rfl⟩
      rw [HX.out]
      rw [hsz3] at hK
      have hK2 : (W.drewN z).heap[g + 4]? = some (.deferred (some [])) := hK
      have h9 : Lp w T (.pointer tp) (addT (.pointer tp) evs (evR 5 n)) (g + 6) [(g + 1, .cells #[.int .u64 (mk (outB l p n))] 24), (g + 1 + 1, .cells #[.int .u64 (mk (bdB l p n))] 24), (g, .cells #[.int .i64 s] 2), (w.heap.size, .cells #[.pointer tp] 35), (w.heap.size + 1, .cells #[.slice (some ⟨b, o, none⟩) n c] 22), (w.heap.size + 1 + 1, .cells #[.int .i64 p.x, .int .i64 p.y] 31), (g + 1 + 1 + 1, .cells #[.slice (some ⟨b, o, none⟩) n c] 22)] (W.drewN z) := h.next (below_drewN' (Below.refl _ _) z)
      gi_wp2
      refine ⟨by simp, .inl ⟨_, _, rfl, run_takeDeferred hK2, ?_⟩⟩
      have h10 := h9.put (l := g + 4) (by omega) (by omega) (by simp; omega) (.deferred none)
      exact ⟨_, results_tmp rfl _ _ _, rfl, by rw [HE.out]; exact h10.out, h10.moved⟩
    case stop =>
      rintro c W h
      exact h.elim
end Go.Proofs.YtkiecjacbfmblaaDoor
