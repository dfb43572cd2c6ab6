/-
  Contracts of package polygon over the landed code: Valid. (Written by polygon.py.)
-/
import Derived.Test.YtkiecjacbfmblaaDoorPolyL
import Derived.Test.YtkiecjacbfmblaaDoorScopeIn
namespace Go.Proofs.YtkiecjacbfmblaaDoor
open Go.RowKit Go.Maps Go.Shelf
set_option maxRecDepth 100000
set_option linter.unusedVariables false
set_option linter.unusedSimpArgs false
attribute [local go_sem] Oper.semAt_some

/-- What is known when the edges below i have been seen, and beside edge i the vertices below j. -/
def seen (l : List Pt) (s : Int) (i j : Nat) (z : Bool) : Prop := z = true ↔ s ≠ 0 ∧ goodTo l s i ∧ rowTo l s i j
theorem equal_x (x y : Int) (hx : x = -1 ∨ x = 0 ∨ x = 1) (hy : y = -1 ∨ y = 0 ∨ y = 1) (w : World) (hw : Wts w) : Calls Tryd.prog 31 #[.int .u64 (IntKind.u64.wrap x), .int .u64 (IntKind.u64.wrap y)] w fun e w' => e = .returned (.int .u64 (mk (decide (x = y)))) ∧ Below w.heap.size w w' := by
  refine (equal_b _ _ (wrap_sgn hx).1 (wrap_sgn hy).1 w hw).mono ?_
  rintro e w' ⟨rfl, hb⟩
  exact ⟨by rw [decide_eq_decide.2 (wrap_inj hx hy)], hb⟩
theorem seen_start {l : List Pt} {s : Int} : seen l s 0 0 (s != 0) := by
  unfold seen
  rw [bne_iff_ne]
  exact ⟨fun h => ⟨h, goodTo_zero _ _, rowTo_zero _ _ _⟩, fun h => h.1⟩
theorem seen_skip {l : List Pt} {s : Int} {i j : Nat} {z : Bool} (h : seen l s i j z) (hj : j = i ∨ j = nx l.length i) : seen l s i (j + 1) z :=
  h.trans ⟨fun ⟨a, b, c⟩ => ⟨a, b, rowTo_skip c hj⟩, fun ⟨a, b, c⟩ => ⟨a, b, fun k h1 h2 h3 => c k (by omega) h2 h3⟩⟩
theorem seen_succ {l : List Pt} {s x : Int} {i j : Nat} {z : Bool} (h : seen l s i j z) (h1 : j ≠ i) (h2 : j ≠ nx l.length i) (hx : side l i (Go.Proofs.YtkiecjacbfmblaaDoor.at_ l j) = x) : seen l s i (j + 1) (z && decide (x = s)) := by
  unfold seen at *
  rw [Bool.and_eq_true, h, decide_eq_true_eq]
  exact ⟨fun ⟨⟨a, b, c⟩, d⟩ => ⟨a, b, rowTo_succ c (hx.trans d)⟩, fun ⟨a, b, c⟩ => ⟨⟨a, b, fun k e1 e2 e3 => c k (by omega) e2 e3⟩, hx ▸ c j (by omega) h1 h2⟩⟩
theorem seen_row {l : List Pt} {s : Int} {i : Nat} {z : Bool} (h : seen l s i l.length z) : seen l s (i + 1) 0 z :=
  h.trans ⟨fun ⟨a, b, c⟩ => ⟨a, goodTo_succ b c, rowTo_zero _ _ _⟩, fun ⟨a, b, _⟩ => ⟨a, fun k hk => b k (by omega), b i (by omega)⟩⟩
theorem seen_done {l : List Pt} {s : Int} {z : Bool} (hp : isP l = true) (hs : orP l = s) (h : seen l s l.length 0 z) : validP l = z := by
  unfold seen at h
  rw [Bool.eq_iff_iff, h]
  unfold validP
  rw [hp, hs, Bool.true_and, Bool.and_eq_true, decide_eq_true_eq, decide_eq_true_eq]
  exact ⟨fun ⟨a, b⟩ => ⟨a, fun i hi j hj h1 h2 => b i hi j hj h1 h2, rowTo_zero _ _ _⟩, fun ⟨a, b, _⟩ => ⟨a, fun i hi j hj h1 h2 => b i hi j hj h1 h2⟩⟩
theorem seen_none {l : List Pt} {s : Int} {z : Bool} (hp : isP l = false) (hs : orP l = s) (h : seen l s 0 0 z) : validP l = z := by
  have h0 : s = 0 := by rw [← hs]; exact orP_no_ hp
  have hz : z = false := by
    cases z
    · rfl
    · exact absurd h0 (h.1 rfl).1
  rw [hz]; unfold validP; rw [hp]; rfl
theorem and_z (a b : Bool) : bits .and .u64 (mk a) (mk b) = mk (a && b) := mk_and a b
def evV (n i j : Nat) : List Ev := validB n i ++ otherE n i j
theorem evV_zero (n i : Nat) : evV n i 0 = validB n i := by unfold evV; rw [show otherE n i 0 = [] from rfl, List.append_nil]
theorem evV_skip {n i j : Nat} (h : j = i ∨ j = nx n i) : evV n i (j + 1) = evV n i j := by unfold evV; rw [otherE_succ, if_pos h, List.append_nil]
theorem evV_add {n i j : Nat} (h1 : j ≠ i) (h2 : j ≠ nx n i) : evV n i (j + 1) = evV n i j ++ [⟨4, i, j⟩] := by unfold evV; rw [otherE_succ, if_neg (by omega), List.append_assoc]
theorem evV_row (n i : Nat) : evV n i n = evV n (i + 1) 0 := by rw [evV_zero, validB_succ]; rfl
theorem evV_len {n i j : Nat} (hn : n ≤ 64) (hi : i ≤ n) (hj : j ≤ n) : (evV n i j).length ≤ 8192 := by
  have h1 := validB_len n i
  have h2 := otherE_len n i j
  have h3 : i * n ≤ 64 * 64 := Nat.mul_le_mul (by omega) hn
  unfold evV
  rw [List.length_append]; omega
set_option maxHeartbeats 4000000 in
theorem polyValid_c (tv : Value) (evs : List Ev) (T Q : Nat → Prop) (A : Option Addr) (n c : Nat) (l : List Pt) (r : Bool) (w : World) (hw : ∀ W, Moved T w W → Wts W) (ht : TapeO w T tv evs) (he : evs.length ≤ 500000) (ha : RowR w Q 2 ptC A l) (hQT : ∀ b, Q b → ¬ T b) (hn : n = l.length) (hl : n ≤ 1000000) (hS : SsP l) (hr : validP l = r) :
    Calls Tryd.prog 10 #[tv, .slice A n c] w fun e w' => e = .returned (.int .u64 (mk r)) ∧ TapeO w' (fun g => T g ∨ w.heap.size ≤ g) tv (addT tv evs (validE n)) ∧ Moved T w w' := by
  have HN := Lib.hid hn
  obtain ⟨tp, rfl⟩ : ∃ tp, tv = .pointer tp := by rcases ht with ⟨rfl, _⟩ | ⟨tb, rfl, _⟩ <;> exact ⟨_, rfl⟩
  obtain ⟨os, hos⟩ : ∃ os : List Obj, os = [.cells #[.pointer tp] 35, .cells #[.slice A n c] 22] := ⟨_, rfl⟩
  obtain ⟨W0, hW0⟩ : ∃ W0, W0 = allocs w os := ⟨_, rfl⟩
  have hsz : W0.heap.size = w.heap.size + 2 := by rw [hW0, allocs_size, hos]; rfl
  have hbw : Below w.heap.size w W0 := by rw [hW0]; exact allocs_below os w
  have a0 : W0.heap[w.heap.size]? = some (.cells #[.pointer tp] 35) := by have := allocs_at os w 0 (by rw [hos]; simp); rw [hW0]; rw [hos] at this ⊢; exact this
  have a1 : W0.heap[w.heap.size + 1]? = some (.cells #[.slice A n c] 22) := by have := allocs_at os w 1 (by rw [hos]; simp); rw [hW0]; rw [hos] at this ⊢; exact this
  have HW := Lib.hid (show allocs w [.cells #[.pointer tp] 35, .cells #[.slice A n c] 22] = W0 by rw [hW0, hos])
  clear hW0 hos hn
  obtain ⟨s, hs⟩ : ∃ s, orP l = s := ⟨_, rfl⟩
  have HS := Lib.hid hs
  have hs1 : s = -1 ∨ s = 0 ∨ s = 1 := by rw [← hs]; exact or_in l
  have hs2 : -1 ≤ s ∧ s ≤ 1 := by omega
  have HR := Lib.hid hr
  clear hs hr
  refine (callsIn_wide (n := 9)).1 ?_
  refine callsIn_of_wp_marks Tryd.func10 rfl trivial ?_ rfl
  simp only [Tryd.ntmps10, List.size_toArray, List.length_cons, List.length_nil, Nat.reduceAdd, Nat.reduceSub, Array.replicate_succ, Array.replicate_zero, List.push_toArray, List.append_toArray, List.nil_append, List.cons_append]
  gi_wp2_with (fail)
  refine ⟨trivial, ?_⟩
  change CallsIn _ _ _ _ _ (allocs w [.cells #[.pointer tp] 35, .cells #[.slice A n c] 22]) _
  rw [HW.out]
  refine (callsIn_wide.2 (polyOr_c A n c l s _ W0 (hw W0 (.of_below hbw)) (ha.next hbw) HN.out hl hS HS.out)).mono ?_
  rintro e w1 ⟨rfl, hb1⟩
  obtain ⟨g, hg⟩ : ∃ g, g = w1.heap.size := ⟨_, rfl⟩
  have hgs : w.heap.size + 2 ≤ g := by have := hb1.size; omega
  have b0 := (hb1.block _ (by omega)).trans a0
  have b1 := (hb1.block _ (by omega)).trans a1
  obtain ⟨W2, hW2⟩ : ∃ W2, W2 = w1.alloc (.cells #[.int .u64 (IntKind.u64.wrap s)] 24) := ⟨_, rfl⟩
  have hsz2 : W2.heap.size = g + 1 := by rw [hW2, World.size_alloc, hg]
  have hb2 : Below g w1 W2 := by rw [hW2, hg]; exact (Below.refl _ _).alloc (Nat.le_refl _) _
  have d0 : W2.heap[g]? = some (.cells #[.int .u64 (IntKind.u64.wrap s)] 24) := by rw [hW2, hg]; exact heap_alloc_new _ _
  have hbW2 : Below w.heap.size w W2 := hbw.trans ((hb1.mono (by omega)).trans (hb2.mono (by omega)))
  have HW2 := Lib.hid hW2.symm
  have HG := Lib.hid hg
  clear hW2 hg
  gi_wp2_with (fail)
  refine ⟨trivial, ?_⟩
  rw [HW2.out]
  refine (callsIn_wide.2 (zero_x s hs2 W2 (hw W2 (.of_below hbW2)))).mono ?_
  rintro e w4 ⟨rfl, hb4⟩
  have e0 := (hb4.block _ (by omega)).trans ((hb2.block _ (by omega)).trans b0)
  have e1 := (hb4.block _ (by omega)).trans ((hb2.block _ (by omega)).trans b1)
  have e2 := (hb4.block _ (by omega)).trans d0
  obtain ⟨z0, hz0⟩ : ∃ z0, z0 = (s != 0) := ⟨_, rfl⟩
  have hx0 : bits .xor .u64 IntKind.u64.max (mk (decide (s = 0))) = mk z0 := by
    have h : (!decide (s = 0)) = (s != 0) := by
      by_cases e : s = 0
      · rw [e]; rfl
      · rw [decide_eq_false e, (bne_iff_ne).2 e]; rfl
    rw [hz0, show IntKind.u64.max = 18446744073709551615 from rfl, xor_mk, h]
  have HZ := Lib.hid hz0
  clear hz0
  obtain ⟨V, hV⟩ : ∃ V, V = w4.alloc (.cells #[.int .u64 (mk z0)] 24) := ⟨_, rfl⟩
  obtain ⟨m, hm⟩ : ∃ m, m = w4.heap.size := ⟨_, rfl⟩
  have hgm : g + 1 ≤ m := by have := hb4.size; omega
  have hszV : V.heap.size = m + 1 := by rw [hV, World.size_alloc, hm]
  have hbV : Below m w4 V := by rw [hV, hm]; exact (Below.refl _ _).alloc (Nat.le_refl _) _
  have f0 := (hbV.block _ (by omega)).trans e0
  have f1 := (hbV.block _ (by omega)).trans e1
  have f2 := (hbV.block _ (by omega)).trans e2
  have f3 : V.heap[m]? = some (.cells #[.int .u64 (mk z0)] 24) := by rw [hV, hm]; exact heap_alloc_new _ _
  have c1' : (w4.alloc (.cells #[.int .u64 (mk z0)] 24)).cell? ⟨w.heap.size + 1, 0, none⟩ = some (.slice A n c) := by rw [← hV]; exact (cells_one f1).1
  have hbwV : Below w.heap.size w V := hbW2.trans ((hb4.mono (by omega)).trans (hbV.mono (by omega)))
  obtain ⟨W5, hW5⟩ : ∃ W5, W5 = V.alloc (.cells #[.slice A n c] 22) := ⟨_, rfl⟩
  have hsz5 : W5.heap.size = m + 2 := by rw [hW5, World.size_alloc, hszV]
  have hb5 : Below V.heap.size V W5 := by rw [hW5]; exact (Below.refl _ _).alloc (Nat.le_refl _) _
  have k0 := (hb5.block _ (by omega)).trans f0
  have k1 := (hb5.block _ (by omega)).trans f1
  have k2 := (hb5.block _ (by omega)).trans f2
  have k3 := (hb5.block _ (by omega)).trans f3
  have k4 : W5.heap[m + 1]? = some (.cells #[.slice A n c] 22) := by rw [hW5]; have := heap_alloc_new V (.cells #[.slice A n c] 22); rwa [hszV] at this
  have hbW5 : Below w.heap.size w W5 := hbwV.trans (hb5.mono (by omega))
  have HV := Lib.hid hV.symm
  have HW5 := Lib.hid hW5.symm
  have HM := Lib.hid hm
  clear hV hW5 hm a0 a1 b0 b1 d0 e0 e1 e2 f0 f1 f2 f3
  rw [show (mk (decide (s = 0))) = mk (decide (s = 0)) from rfl]
  gi_wp2_with (fail)
  refine ⟨trivial, ?_⟩
  rw [HV.out]
  refine (callsIn_wide.2 (edges_any A n c V)).mono ?_
  rintro e w5 ⟨rfl, hw5⟩
  rw [HW5.out] at hw5
  obtain rfl := hw5.symm
  rw [hszV, ← HG.out, ← HM.out]
  clear c1' hx0
  gi_wp2_with (fail)
  obtain ⟨M, hM, hy⟩ : ∃ M, ((M = n ∧ okN n = true) ∨ (M = 0 ∧ okN n = false)) ∧ Yields Fence.wide 8 Tryd.prog 45 #[.pointer (some ⟨m + 1, 0, none⟩)] (fun k => #[.int .i64 k, .int .i64 (nx n k : Nat)]) M (fun _ W => PreE (m + 1) A n c W) (fun _ => Eq) Eq := by
    cases ho : okN n with
    | true => exact ⟨n, .inl ⟨rfl, rfl⟩, edges_yes (m + 1) A n c ho⟩
    | false => exact ⟨0, .inr ⟨rfl, rfl⟩, edges_no (m + 1) A n c hl ho⟩
  have HMM := Lib.hid hM
  clear hM
  refine wpIn_rangeFunc_y (F := Fence.wide) rfl (by decide) (gf := 45) rfl trivial (enters_of Tryd.func45 (by kernel_rfl) rfl)
    hy (fun _ => rfl)
    (fun k W => ∃ z, seen l s k 0 z ∧ Lp w T (.pointer tp) (addT (.pointer tp) evs (evV n k 0)) (m + 4) [(m, .cells #[.int .u64 (mk z)] 24), (g, .cells #[.int .u64 (IntKind.u64.wrap s)] 24), (w.heap.size, .cells #[.pointer tp] 35), (w.heap.size + 1, .cells #[.slice A n c] 22), (m + 1, .cells #[.slice A n c] 22)] W)
    (fun k W => ∃ z, seen l s k 0 z ∧ Lp w T (.pointer tp) (addT (.pointer tp) evs (evV n k 0)) (m + 4) [(m, .cells #[.int .u64 (mk z)] 24), (g, .cells #[.int .u64 (IntKind.u64.wrap s)] 24), (w.heap.size, .cells #[.pointer tp] 35), (w.heap.size + 1, .cells #[.slice A n c] 22), (m + 1, .cells #[.slice A n c] 22)] W)
    (fun _ _ => False) ?hI ?hIm (fun _ _ _ h => h) ?h0 ?hpre ?hst ?hfi (fun _ _ _ _ h => h.elim)
    (fun k => { tmps := #[.pointer tp, .slice A n c, .pointer (some ⟨w.heap.size, 0, none⟩), .pointer (some ⟨w.heap.size + 1, 0, none⟩), .int .u64 0, .pointer (some ⟨g, 0, none⟩), .pointer (some ⟨m, 0, none⟩), .int .i64 k, .int .i64 (nx n k : Nat), undef, undef, undef, .slice A n c, .int .i64 s, .int .u64 (IntKind.u64.wrap s), .int .u64 (IntKind.u64.wrap s), .int .u64 (mk (decide (s = 0))), .int .u64 (mk z0), .slice A n c, .func (.func 45) #[] #[.pointer (some ⟨m + 1, 0, none⟩)], .int .i64 k, .int .i64 (nx n k : Nat), undef, undef, undef, undef, undef, undef, undef, undef, undef, undef, undef, undef, undef, undef, undef, undef, undef, undef, undef, undef, undef, undef, undef, undef, undef, undef, undef, undef, undef, undef, undef, undef, undef, undef, undef, undef, undef, undef, undef], defers := [] }) ?assign ?body ?done ?stop
  case hI => exact fun k W o ⟨z, hz, h⟩ => ⟨z, hz, h.put (by omega) (by omega) (by simp; omega) o⟩
  case hIm => exact fun k W o ⟨z, hz, h⟩ => ⟨z, hz, h.put (by omega) (by omega) (by simp; omega) o⟩
  case h0 =>
    intro o'
    refine ⟨z0, by rw [HZ.out]; exact seen_start, Lp.start (by rw [evV_zero, show validB n 0 = [] from rfl, addT_nil ht]; exact ht) hbW5 ?_ (by omega) _ _⟩
    simp only [List.forall_mem_cons, List.not_mem_nil, false_imp_iff, implies_true, and_true]
    exact ⟨⟨by omega, k3⟩, ⟨by omega, k2⟩, ⟨by omega, k0⟩, ⟨by omega, k1⟩, by omega, k4⟩
  case hpre => exact fun k W ⟨z, hz, h⟩ => h.at_ (.tail _ (.tail _ (.tail _ (.tail _ (.head _)))))
  case hst => exact fun k W W' _ _ h e => e ▸ ⟨Same2.refl _ _, h⟩
  case hfi => exact fun W W' _ h e => e ▸ ⟨Same2.refl _ _, h⟩
  case assign =>
    intro r' k W K hK
    gi_wp2
    exact hK
  case body =>
    rintro r' k W hkM hlt ⟨z, hz, h⟩
    have ho : okN n = true := by rcases HMM.out with h | h; exact h.2; omega
    have hMn : M = n := by rcases HMM.out with h | h; exact h.1; omega
    subst hMn
    obtain ⟨h3, h64⟩ := (okN_iff M).1 ho
    obtain ⟨b, o, rfl, hz1, hz2, hz3⟩ := ha.pt_ (k := 0) (by rw [← HN.out]; omega)
    obtain ⟨q, hq⟩ : ∃ q, q = nx M k := ⟨_, rfl⟩
    have hqn : q < M := by rw [hq]; exact nx_lt (by omega)
    have HQ := Lib.hid hq
    have HZ0 := Lib.hid hz
    rw [← hq]
    clear hq hz ho hz1 hz2 hz3 hy k0 k1 k2 k3 k4
    gi_wp2_with (fail)
    refine wpIn_scope ?_
    gi_wp2_with (fail)
    refine wpIn_label ?_
    obtain ⟨c1, _⟩ := h.one (b := w.heap.size + 1) (.tail _ (.tail _ (.tail _ (.head _))))
    gi_wp2
    gi_loopw [24] (fun jv wr => ∃ (j : Nat) (z : Bool), jv = .int .i64 j ∧ j ≤ M ∧ seen l s k j z ∧ Lp w T (.pointer tp) (addT (.pointer tp) evs (evV M k j)) (m + 4) [(m, .cells #[.int .u64 (mk z)] 24), (g, .cells #[.int .u64 (IntKind.u64.wrap s)] 24), (w.heap.size, .cells #[.pointer tp] 35), (w.heap.size + 1, .cells #[.slice (some ⟨b, o, none⟩) M c] 22), (m + 1, .cells #[.slice (some ⟨b, o, none⟩) M c] 22)] wr ∧ Same2 W5.heap.size W wr) (fun jv _ => M - (intOf jv).toNat)
    case atStart => exact ⟨0, z, rfl, Nat.zero_le _, HZ0.out, h, Same2.refl _ _⟩
    case round =>
      clear c1 h HZ0 z
      obtain ⟨j, z, rfl, hj, hz, h, hsm⟩ := hrel
      have HSE := Lib.hid hz
      clear hz
      by_cases hgj : j < M
      · have hi0 : ∀ w : World, Sem.run Tryd.prog (Instr.index 51 (.agg #[.int .i64 k, .int .i64 q]) (.int .i64 0)) w = .ok (.int .i64 k) w := fun _ => by kernel_rfl
        have hi1 : ∀ w : World, Sem.run Tryd.prog (Instr.index 51 (.agg #[.int .i64 k, .int .i64 q]) (.int .i64 1)) w = .ok (.int .i64 q) w := fun _ => by kernel_rfl
        gi_wp2
        gi_loopw [30] (fun iv wr' => wr' = wr ∧ (iv = .int .i64 0 ∨ (iv = .int .i64 1 ∧ j ≠ k) ∨ (iv = .int .i64 2 ∧ j ≠ k ∧ j ≠ q))) (fun iv _ => 2 - (intOf iv).toNat)
        case atStart => exact ⟨rfl, .inl rfl⟩
        case round =>
          obtain ⟨rfl, rfl | ⟨rfl, e1⟩ | ⟨rfl, e1, e2⟩⟩ := hrel
          · by_cases e1 : j = k
            · have d1 : ((j : Int) == (k : Int)) = true := by rw [beq_iff_eq]; omega
              have HV1 := Lib.hid (evV_skip (n := M) (i := k) (j := j) (.inl e1))
              have HS1 := Lib.hid (seen_skip HSE.out (.inl e1))
              clear e1
              gi_wp2
              go_roundw
              case rel => exact ⟨j + 1, z, by go_num, hgj, HS1.out, by rw [HV1.out]; exact h, hsm⟩
              case measure => simp [intOf]; omega
            · have d1 : ((j : Int) == (k : Int)) = false := by rw [beq_eq_false_iff_ne]; omega
              gi_wp2
              go_roundw
              case rel => exact ⟨trivial, .inr (.inl ⟨rfl, e1⟩)⟩
              case measure => simp [intOf]
          · by_cases e2 : j = q
            · have d1 : ((j : Int) == (q : Int)) = true := by rw [beq_iff_eq]; omega
              have HV1 := Lib.hid (evV_skip (n := M) (i := k) (j := j) (.inr (by rw [e2, HQ.out])))
              have HS1 := Lib.hid (seen_skip HSE.out (.inr (by rw [e2, HQ.out, HN.out])))
              clear e1 e2
              gi_wp2
              go_roundw
              case rel => exact ⟨j + 1, z, by go_num, hgj, HS1.out, by rw [HV1.out]; exact h, hsm⟩
              case measure => simp [intOf]; omega
            · have d1 : ((j : Int) == (q : Int)) = false := by rw [beq_eq_false_iff_ne]; omega
              gi_wp2
              go_roundw
              case rel => exact ⟨trivial, .inr (.inr ⟨rfl, e1, e2⟩)⟩
              case measure => simp [intOf]
          · obtain ⟨t0, _⟩ := h.one (b := w.heap.size) (.tail _ (.tail _ (.head _)))
            have hel : (addT (.pointer tp) evs (evV M k j)).length ≤ 1000000 := by
              have h1 := addT_le (.pointer tp) evs (evV M k j)
              have h2 := evV_len (n := M) (i := k) (j := j) h64 (by omega) hj
              omega
            have HEV := Lib.hid (evV_add (n := M) e1 (by rw [← HQ.out]; exact e2))
            obtain ⟨x, hx⟩ : ∃ x, side l k (Go.Proofs.YtkiecjacbfmblaaDoor.at_ l j) = x := ⟨_, rfl⟩
            have hx1 := side_in_ l k (Go.Proofs.YtkiecjacbfmblaaDoor.at_ l j)
            rw [hx] at hx1
            have HS1 := Lib.hid (seen_succ HSE.out e1 (by rw [← HN.out, ← HQ.out]; exact e2) hx)
            have HX := Lib.hid (show sgnP (Go.Proofs.YtkiecjacbfmblaaDoor.at_ l k) (Go.Proofs.YtkiecjacbfmblaaDoor.at_ l q) (Go.Proofs.YtkiecjacbfmblaaDoor.at_ l j) = x by rw [← hx, HQ.out, HN.out]; rfl)
            clear e1 e2 hx hi0 hi1
            gi_wp2_with (fail)
            refine ⟨trivial, (callsIn_wide.2 (noteO_any (.pointer tp) _ _ 4 k j _ h.tape hel (by decide) h.noted)).mono ?_⟩
            rintro e W1 ⟨rfl, ht1, hm1⟩
            rw [addT_assoc, ← HEV.out] at ht1
            have h1 := h.step hm1 ht1
            have hs1' : Same2 W5.heap.size W W1 := hsm.trans (hm1.same2 (by omega) (by omega) (by have := h.size; omega))
            clear h t0 hel ht1 hm1 hsm
            have hwt := hw W1 h1.moved
            obtain ⟨d6, _⟩ := h1.one (b := m) (.head _)
            obtain ⟨d5, _⟩ := h1.one (b := g) (.tail _ (.head _))
            obtain ⟨c1, _⟩ := h1.one (b := w.heap.size + 1) (.tail _ (.tail _ (.tail _ (.head _))))
            have hrow := h1.row ha (fun _ => by simp [ptC]) hQT
            obtain ⟨p0, p1⟩ := hrow.pt2 (k := k) (by rw [← HN.out]; exact hkM)
            obtain ⟨q0, q1⟩ := hrow.pt2 (k := q) (by rw [← HN.out]; exact hqn)
            obtain ⟨x0, x1⟩ := hrow.pt2 (k := j) (by rw [← HN.out]; exact hgj)
            have HP := Lib.hid (hS.ss (k := k) (by rw [← HN.out]; exact hkM))
            have HR1 := Lib.hid (hS.ss (k := q) (by rw [← HN.out]; exact hqn))
            have HY := Lib.hid (hS.ss (k := j) (by rw [← HN.out]; exact hgj))
            obtain ⟨P, hP⟩ : ∃ P, P = Go.Proofs.YtkiecjacbfmblaaDoor.at_ l k := ⟨_, rfl⟩
            obtain ⟨R, hR⟩ : ∃ R, R = Go.Proofs.YtkiecjacbfmblaaDoor.at_ l q := ⟨_, rfl⟩
            obtain ⟨Y, hY⟩ : ∃ Y, Y = Go.Proofs.YtkiecjacbfmblaaDoor.at_ l j := ⟨_, rfl⟩
            rw [← hP] at p0 p1 HP HX
            rw [← hR] at q0 q1 HR1 HX
            rw [← hY] at x0 x1 HY HX
            have HA1 := Lib.hid (and_z z (decide (x = s)))
            have hmx : Tryd.prog.follows .mixedOrders = true := by kernel_rfl
            clear hP hR hY
            gi_wp2
            refine dir_round hmx (by kernel_rfl) (fun _ _ h => h) 18 [[], [], [], [(42, 1), (43, 2)], [(44, 3)], [], [], [(46, 5), (47, 6)], [(48, 7)], [], [], [(50, 9), (51, 10)], [(52, 11)], [(45, 4), (49, 8), (53, 12)], [(54, 13)], [], [(55, 14), (56, 15)], [(41, 0), (57, 16)], [(58, 17)]] [(41, 0), (42, 1), (43, 2), (44, 3), (45, 4), (46, 5), (47, 6), (48, 7), (49, 8), (50, 9), (51, 10), (52, 11), (53, 12), (54, 13), (55, 14), (56, 15), (57, 16), (58, 17)] [
                (fun v _ => v = .int .u64 (mk z)),
                (fun v _ => v = .slice (some ⟨b, o, none⟩) M c),
                (fun v _ => v = .int .i64 k),
                (fun v _ => v = .pointer (some ⟨b, (o + k * 2), none⟩)),
                (fun v _ => v = .agg #[.int .i64 P.x, .int .i64 P.y]),
                (fun v _ => v = .slice (some ⟨b, o, none⟩) M c),
                (fun v _ => v = .int .i64 q),
                (fun v _ => v = .pointer (some ⟨b, (o + q * 2), none⟩)),
                (fun v _ => v = .agg #[.int .i64 R.x, .int .i64 R.y]),
                (fun v _ => v = .slice (some ⟨b, o, none⟩) M c),
                (fun v _ => v = .int .i64 j),
                (fun v _ => v = .pointer (some ⟨b, (o + j * 2), none⟩)),
                (fun v _ => v = .agg #[.int .i64 Y.x, .int .i64 Y.y]),
                (fun v _ => v = .int .i64 x),
                (fun v _ => v = .int .u64 (IntKind.u64.wrap x)),
                (fun v _ => v = .int .u64 (IntKind.u64.wrap s)),
                (fun v _ => v = .int .u64 (mk (decide (x = s)))),
                (fun v _ => v = .int .u64 (bits .and .u64 (mk z) (mk (decide (x = s)))))
              ] (by kernel_rfl) (by kernel_rfl) (by kernel_rfl) (by decide) ⟨dstab_eq, dstab_eq, dstab_eq, dstab_eq, dstab_eq, dstab_eq, dstab_eq, dstab_eq, dstab_eq, dstab_eq, dstab_eq, dstab_eq, dstab_eq, dstab_eq, dstab_eq, dstab_eq, dstab_eq, dstab_eq, trivial⟩ ?steps ?fin
            case steps =>
              refine ⟨?_, ?_, ?_, ?_, ?_, ?_, ?_, ?_, ?_, ?_, ?_, ?_, ?_, ?_, ?_, ?_, ?_, ?_, trivial⟩
              · intro vs g w2 hI hF hR K hK
                simp only [Facts, fill, Act.put, z1, z2, z3, z4, z5, Nat.reduceAdd] at hF hR hK ⊢
                have k0 := (hI.cell (lt_of_cell d6)).trans d6
                go_simp
                exact hK _ () _ hI (Below.refl _ _) rfl
              · intro vs g w2 hI hF hR K hK
                simp only [Facts, fill, Act.put, z1, z2, z3, z4, z5, Nat.reduceAdd] at hF hR hK ⊢
                have k0 := (hI.cell (lt_of_cell c1)).trans c1
                go_simp
                exact hK _ () _ hI (Below.refl _ _) rfl
              · intro vs g w2 hI hF hR K hK
                simp only [Facts, fill, Act.put, z1, z2, z3, z4, z5, Nat.reduceAdd] at hF hR hK ⊢
                go_simp
                exact hK _ () _ hI (Below.refl _ _) rfl
              · intro vs g w2 hI hF hR K hK
                simp only [Facts, fill, Act.put, z1, z2, z3, z4, z5, Nat.reduceAdd] at hF hR hK ⊢
                obtain ⟨r1, r2, -⟩ := hR
                generalize vs 1 = x1, vs 2 = x2 at *
                subst r1 r2
                go_simp
                exact hK _ () _ hI (Below.refl _ _) rfl
              · intro vs g w2 hI hF hR K hK
                simp only [Facts, fill, Act.put, z1, z2, z3, z4, z5, Nat.reduceAdd] at hF hR hK ⊢
                obtain ⟨r3, -⟩ := hR
                generalize vs 3 = x3 at *
                subst r3
                have k0 := (hI.cell (lt_of_cell p0)).trans p0
                have k1 := (hI.cell (lt_of_cell p1)).trans p1
                go_simp
                exact hK _ () _ hI (Below.refl _ _) rfl
              · intro vs g w2 hI hF hR K hK
                simp only [Facts, fill, Act.put, z1, z2, z3, z4, z5, Nat.reduceAdd] at hF hR hK ⊢
                have k0 := (hI.cell (lt_of_cell c1)).trans c1
                go_simp
                exact hK _ () _ hI (Below.refl _ _) rfl
              · intro vs g w2 hI hF hR K hK
                simp only [Facts, fill, Act.put, z1, z2, z3, z4, z5, Nat.reduceAdd] at hF hR hK ⊢
                go_simp
                exact hK _ () _ hI (Below.refl _ _) rfl
              · intro vs g w2 hI hF hR K hK
                simp only [Facts, fill, Act.put, z1, z2, z3, z4, z5, Nat.reduceAdd] at hF hR hK ⊢
                obtain ⟨r5, r6, -⟩ := hR
                generalize vs 5 = x5, vs 6 = x6 at *
                subst r5 r6
                go_simp
                exact hK _ () _ hI (Below.refl _ _) rfl
              · intro vs g w2 hI hF hR K hK
                simp only [Facts, fill, Act.put, z1, z2, z3, z4, z5, Nat.reduceAdd] at hF hR hK ⊢
                obtain ⟨r7, -⟩ := hR
                generalize vs 7 = x7 at *
                subst r7
                have k0 := (hI.cell (lt_of_cell q0)).trans q0
                have k1 := (hI.cell (lt_of_cell q1)).trans q1
                go_simp
                exact hK _ () _ hI (Below.refl _ _) rfl
              · intro vs g w2 hI hF hR K hK
                simp only [Facts, fill, Act.put, z1, z2, z3, z4, z5, Nat.reduceAdd] at hF hR hK ⊢
                have k0 := (hI.cell (lt_of_cell c1)).trans c1
                go_simp
                exact hK _ () _ hI (Below.refl _ _) rfl
              · intro vs g w2 hI hF hR K hK
                simp only [Facts, fill, Act.put, z1, z2, z3, z4, z5, Nat.reduceAdd] at hF hR hK ⊢
                go_simp
                exact hK _ () _ hI (Below.refl _ _) rfl
              · intro vs g w2 hI hF hR K hK
                simp only [Facts, fill, Act.put, z1, z2, z3, z4, z5, Nat.reduceAdd] at hF hR hK ⊢
                obtain ⟨r9, r10, -⟩ := hR
                generalize vs 9 = x9, vs 10 = x10 at *
                subst r9 r10
                go_simp
                exact hK _ () _ hI (Below.refl _ _) rfl
              · intro vs g w2 hI hF hR K hK
                simp only [Facts, fill, Act.put, z1, z2, z3, z4, z5, Nat.reduceAdd] at hF hR hK ⊢
                obtain ⟨r11, -⟩ := hR
                generalize vs 11 = x11 at *
                subst r11
                have k0 := (hI.cell (lt_of_cell x0)).trans x0
                have k1 := (hI.cell (lt_of_cell x1)).trans x1
                go_simp
                exact hK _ () _ hI (Below.refl _ _) rfl
              · intro vs g w2 hI hF hR K hK
                simp only [Facts, fill, Act.put, z1, z2, z3, z4, z5, Nat.reduceAdd] at hF hR hK ⊢
                obtain ⟨r4, r8, r12, -⟩ := hR
                generalize vs 4 = x4, vs 8 = x8, vs 12 = x12 at *
                subst r4 r8 r12
                go_simp
                refine (orSign_d P R Y w2 (hwt.below hI) HP.out HR1.out HY.out x HX.out).mono ?_
                rintro e w3 ⟨rfl, hb⟩
                exact hK _ () _ (hI.trans (hb.mono hI.size)) hb rfl
              · intro vs g w2 hI hF hR K hK
                simp only [Facts, fill, Act.put, z1, z2, z3, z4, z5, Nat.reduceAdd] at hF hR hK ⊢
                obtain ⟨r13, -⟩ := hR
                generalize vs 13 = x13 at *
                subst r13
                go_simp
                exact hK _ () _ hI (Below.refl _ _) rfl
              · intro vs g w2 hI hF hR K hK
                simp only [Facts, fill, Act.put, z1, z2, z3, z4, z5, Nat.reduceAdd] at hF hR hK ⊢
                have k0 := (hI.cell (lt_of_cell d5)).trans d5
                go_simp
                exact hK _ () _ hI (Below.refl _ _) rfl
              · intro vs g w2 hI hF hR K hK
                simp only [Facts, fill, Act.put, z1, z2, z3, z4, z5, Nat.reduceAdd] at hF hR hK ⊢
                obtain ⟨r14, r15, -⟩ := hR
                generalize vs 14 = x14, vs 15 = x15 at *
                subst r14 r15
                go_simp
                refine (equal_x x s hx1 hs1 _ (hwt.below hI)).mono ?_
                rintro e w3 ⟨rfl, hb⟩
                exact hK _ () _ (hI.trans (hb.mono hI.size)) hb rfl
              · intro vs g w2 hI hF hR K hK
                simp only [Facts, fill, Act.put, z1, z2, z3, z4, z5, Nat.reduceAdd] at hF hR hK ⊢
                obtain ⟨r0, r16, -⟩ := hR
                generalize vs 0 = x0, vs 16 = x16 at *
                subst r0 r16
                go_simp
                exact hK _ () _ hI (Below.refl _ _) rfl
            case fin =>
              intro vs w2 hI hR
              have r17 := hR 17 (by decide)
              simp only [fill, Act.put, z1, z2, z3, z4, z5] at r17 ⊢
              clear hR
              generalize vs 17 = x17 at *
              subst r17
              have h4 := h1.next hI
              obtain ⟨u0, u1⟩ := h4.one (b := m) (.head _)
              refine wpOps_step rfl rfl ?_
              go_simp
              clear u0 u1
              have h5 := h4.set (by simp; omega) (.int .u64 (bits .and .u64 (mk z) (mk (decide (x = s)))))
              have hs5 := (hs1'.trans (Same2.of_below hI (by have := h1.size; omega))).trans (same2_set (W := w2) (k := m) (x := .int .u64 (bits .and .u64 (mk z) (mk (decide (x = s))))) (by omega) (by omega))
              rw [HA1.out] at h5 hs5 ⊢
              generalize w2.setCell ⟨m, 0, none⟩ (.int .u64 (mk (z && decide (x = s)))) = w5 at h5 hs5 ⊢
              clear d6 d5 c1 p0 p1 q0 q1 x0 x1 hrow h4 h1 hs1' hI
              refine NoPanic.normal ?_
              gi_wp2
              go_roundw
              case rel => exact ⟨j + 1, z && decide (x = s), by go_num, hgj, HS1.out, h5, hs5⟩
              case measure => simp [intOf]; omega
      · have HV1 := Lib.hid (show evV M k j = evV M (k + 1) 0 by rw [show j = M by omega]; exact evV_row M k)
        have HS1 := Lib.hid (show seen l s (k + 1) 0 z by refine seen_row ?_; rw [← HN.out, ← show j = M by omega]; exact HSE.out)
        rw [HV1.out] at h
        gi_wp2
        exact ⟨hsm, z, HS1.out, h⟩
  case done =>
    rintro W ⟨z, hz, h⟩ hK
    have hv : z = r ∧ validE n = evV n M 0 := by
      rcases HMM.out with ⟨e1, e2⟩ | ⟨e1, e2⟩
      · refine ⟨?_, by rw [e1, evV_zero]; unfold validE; rw [if_pos e2]⟩
        rw [e1, HN.out] at hz
        rw [← HR.out]; exact (seen_done (by rw [← okN_isP, ← HN.out]; exact e2) HS.out hz).symm
      · refine ⟨?_, by rw [e1, evV_zero]; unfold validE; rw [if_neg (by rw [e2]; simp)]; rfl⟩
        rw [e1] at hz
        rw [← HR.out]; exact (seen_none (by rw [← okN_isP, ← HN.out]; exact e2) HS.out hz).symm
    obtain ⟨rfl, hv2⟩ := hv
    rw [← hv2] at h
    obtain ⟨z1, _⟩ := h.one (b := m) (.head _)
    have h10 := Lib.hid (h.put (l := W5.heap.size) (by omega) (by omega) (by simp; omega) (.deferred none))
    clear h hv2 hz hy k0 k1 k2 k3 k4
    gi_wp2
    refine ⟨by simp, .inl ⟨_, _, rfl, run_takeDeferred hK, ?_⟩⟩
    exact ⟨_, results_tmp rfl _ _ _, rfl, h10.out.out, h10.out.moved⟩
  case stop =>
    rintro c W h
    exact h.elim
end Go.Proofs.YtkiecjacbfmblaaDoor
