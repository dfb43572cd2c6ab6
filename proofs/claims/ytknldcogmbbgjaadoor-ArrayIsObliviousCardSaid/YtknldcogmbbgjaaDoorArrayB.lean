/-
  Contracts of package array over the landed code: Read, Count, First, All, Some.
-/
import Derived.Test.YtknldcogmbbgjaaDoorArrayA
namespace Go.Proofs.YtknldcogmbbgjaaDoor
open Go.RowKit Go.Maps Go.Shelf
set_option maxRecDepth 100000
set_option linter.unusedVariables false
set_option linter.unusedSimpArgs false
attribute [local go_sem] Oper.semAt_some

set_option maxHeartbeats 1000000 in
theorem arrRead_c (p : Option Addr) (l : List Ev) (T S : Nat → Prop) (A : Option Addr) (n c : Nat) (xs : List Int) (i : Int) (r : Int) (w : World) (hw : ∀ W, Moved T w W → Wts W) (h : TapeO w T (.pointer p) l) (hl : l.length ≤ 100000) (hxs : SlR w S .u64 A xs) (hST : ∀ g, S g → ¬ T g) (hn : n = xs.length) (hn2 : n ≤ 1000) (hU : Us xs) (hi : U i) (hr : rdL xs i = r) :
    Calls Tryd.prog 11 #[.pointer p, .slice A n c, .int .u64 i] w fun e w' => e = .returned (.int .u64 r) ∧ TapeO w' (fun g => T g ∨ w.heap.size ≤ g) (.pointer p) (addT (.pointer p) l (evR 1 n)) ∧ Moved T w w' := by
  have HR := Lib.hid ((selR_done hU hi).trans hr)
  clear hr
  subst hn
  refine (callsIn_wide (n := 9)).1 ?_
  refine callsIn_of_wp_marks Tryd.func11 rfl trivial ?_ rfl
  simp only [Tryd.ntmps11, List.size_toArray, List.length_cons, List.length_nil, Nat.reduceAdd, Nat.reduceSub, Array.replicate_succ, Array.replicate_zero, List.push_toArray, List.append_toArray, List.nil_append, List.cons_append]
  gi_wp2_with (fail)
  refine ⟨trivial, (callsIn_wide.2 (visits_any p 1 A xs.length c _)).mono ?_⟩
  rintro e w1 ⟨rfl, rfl⟩
  gi_wp2_with (fail)
  obtain ⟨os, hos⟩ : ∃ os : List Obj, os = [.cells #[.int .u64 i] 23, .cells #[.int .u64 0] 23, .cells #[.pointer p] 36, .cells #[.int .i64 1] 3, .cells #[.slice A xs.length c] 22] := ⟨_, rfl⟩
  change Code.wpIn _ _ _ _ _ _ (allocs w [.cells #[.int .u64 i] 23, .cells #[.int .u64 0] 23, .cells #[.pointer p] 36, .cells #[.int .i64 1] 3, .cells #[.slice A xs.length c] 22])
  rw [← hos]
  have hsz : (allocs w os).heap.size = w.heap.size + 5 := by rw [allocs_size, hos]; rfl
  have hbw := allocs_below os w
  have a0 : (allocs w os).heap[w.heap.size]? = some (.cells #[.int .u64 i] 23) := by have := allocs_at os w 0 (by rw [hos]; simp); rw [hos] at this ⊢; exact this
  have a1 : (allocs w os).heap[w.heap.size + 1]? = some (.cells #[.int .u64 0] 23) := by have := allocs_at os w 1 (by rw [hos]; simp); rw [hos] at this ⊢; exact this
  have a2 : (allocs w os).heap[w.heap.size + 1 + 1]? = some (.cells #[.pointer p] 36) := by have := allocs_at os w 2 (by rw [hos]; simp); rw [hos] at this ⊢; exact this
  have a3 : (allocs w os).heap[w.heap.size + 1 + 1 + 1]? = some (.cells #[.int .i64 1] 3) := by have := allocs_at os w 3 (by rw [hos]; simp); rw [hos] at this ⊢; exact this
  have a4 : (allocs w os).heap[w.heap.size + 1 + 1 + 1 + 1]? = some (.cells #[.slice A xs.length c] 22) := by have := allocs_at os w 4 (by rw [hos]; simp); rw [hos] at this ⊢; exact this
  generalize allocs w os = Wc at hsz hbw a0 a1 a2 a3 a4 ⊢
  clear hos os
  obtain ⟨b, o, hA⟩ : ∃ b o, 0 < xs.length → A = some ⟨b, o, none⟩ := by
    by_cases h0 : 0 < xs.length
    · obtain ⟨b, o, e, _⟩ := hxs h0; exact ⟨b, o, fun _ => e⟩
    · exact ⟨0, 0, fun h => absurd h h0⟩
  refine wpIn_rangeFunc_y (F := Fence.wide) rfl (by decide) (gf := 38) rfl trivial (enters_of Tryd.func38 (by kernel_rfl) rfl)
    (visits_y w T T (fun _ h => h) (w.heap.size + 7) (w.heap.size + 1 + 1 + 1 + 1) (w.heap.size + 1 + 1) (w.heap.size + 1 + 1 + 1) A b o xs.length c hA hn2 (.pointer p) l hl 1 (by decide)) (fun _ => rfl)
    (fun k W => In w T (w.heap.size + 7) [(w.heap.size + 1, .int .u64 (selR xs i k), 23), (w.heap.size, .int .u64 i, 23), (w.heap.size + 1 + 1 + 1 + 1, .slice A xs.length c, 22), (w.heap.size + 1 + 1, .pointer p, 36), (w.heap.size + 1 + 1 + 1, .int .i64 1, 3)] W ∧ TapeO W (Star w T (w.heap.size + 7)) (.pointer p) (addT (.pointer p) l (evR 1 k)))
    (fun k W => In w T (w.heap.size + 7) [(w.heap.size + 1, .int .u64 (selR xs i k), 23), (w.heap.size, .int .u64 i, 23), (w.heap.size + 1 + 1 + 1 + 1, .slice A xs.length c, 22), (w.heap.size + 1 + 1, .pointer p, 36), (w.heap.size + 1 + 1 + 1, .int .i64 1, 3)] W ∧ TapeO W (Star w T (w.heap.size + 7)) (.pointer p) (addT (.pointer p) l (evR 1 (k + 1))))
    (fun _ _ => False) ?hI ?hIm (fun _ _ _ h => h) ?h0 ?hpre ?hst ?hfi (fun _ _ _ _ h => h.elim)
    (fun k => { tmps := #[.pointer p, .slice A xs.length c, .int .u64 i, undef, undef, .pointer (some ⟨w.heap.size, 0, none⟩), .int .u64 0, .pointer (some ⟨w.heap.size + 1, 0, none⟩), .int .u64 k, .pointer (some ⟨b, o + k, none⟩), .pointer p, .slice A xs.length c, .func (.func 38) #[] #[.pointer (some ⟨w.heap.size + 1 + 1 + 1 + 1, 0, none⟩), .pointer (some ⟨w.heap.size + 1 + 1, 0, none⟩), .pointer (some ⟨w.heap.size + 1 + 1 + 1, 0, none⟩)], .int .u64 k, .pointer (some ⟨b, o + k, none⟩), undef, undef, undef, undef, undef, undef, undef, undef, undef], defers := [] })
    ?assign ?body ?done ?stop
  case hI => exact fun k W o h => ⟨h.1.put (by omega) (by simp; omega) o, tape_put h.2 (by omega) (by omega) o⟩
  case hIm => exact fun k W o h => ⟨h.1.put (by omega) (by simp; omega) o, tape_put h.2 (by omega) (by omega) o⟩
  case h0 =>
    refine fun o => ⟨In.start hbw ?_ (by omega) _ _, ?_⟩
    · simp only [List.forall_mem_cons, List.not_mem_nil, false_imp_iff, implies_true, and_true]
      exact ⟨⟨by omega, a1⟩, ⟨by omega, a0⟩, ⟨by omega, a4⟩, ⟨by omega, a2⟩, by omega, a3⟩
    · have := tape_start h hbw (w.heap.size + 7) (.deferred (some [])) o
      rwa [addT_zero h]
  case hpre => exact fun k W h => ⟨h.1.sub (by simp), h.2⟩
  case hst => exact fun k W W' _ hlt h hs => ⟨hs.2.same2 (by omega) (by omega) (by omega), h.1.step (fun _ h => h) hs.2, hs.1⟩
  case hfi => rintro W W' _ h rfl; exact ⟨Same2.refl _ _, h⟩
  case assign =>
    intro r k W K hK
    gi_wp2
    exact hK
  case body =>
    rintro r k W hkn hlt ⟨hin, ht⟩
    have hwt := hw W hin.moved
    obtain rfl := hA (by omega)
    obtain ⟨b', o', e, hb', hcx⟩ := hxs.dgt_ hkn
    injection e with e
    injection e with e1 e2
    subst e1 e2
    have cx : W.cell? ⟨b, o + k, none⟩ = some (.int .u64 (dgt xs k)) := by rw [hin.moved.cell (cell_lt hcx) (hST _ hb')]; exact hcx
    obtain ⟨d1, f1⟩ := hin.b0
    obtain ⟨d0, f0⟩ := hin.b1
    have hk1 : U (k : Int) := by unfold U; omega
    have hmx : Tryd.prog.follows .mixedOrders = true := by kernel_rfl
    clear hcx
    have hUx := Us_dgt hU k
    have HACC0 := Lib.hid (show selR xs i (k + 1) = sel (mk (decide (i = k))) (dgt xs k) (selR xs i k) from rfl)
    generalize dgt xs k = x at cx hUx HACC0
    gi_wp2
    refine dir_round hmx (by kernel_rfl) (fun _ _ h => h) 8 [[], [], [(15, 0), (16, 1)], [], [(18, 3)], [(19, 4)], [], [(17, 2), (20, 5), (21, 6)], [(22, 7)]] [(15, 0), (16, 1), (17, 2), (18, 3), (19, 4), (20, 5), (21, 6), (22, 7)] [
        (fun v _ => v = .int .u64 i),
        (fun v _ => v = .int .u64 k),
        (fun v _ => v = .int .u64 (mk (decide (i = k)))),
        (fun v _ => v = .pointer (some ⟨b, o + k, none⟩)),
        (fun v _ => v = .pointer (some ⟨b, o + k, none⟩)),
        (fun v _ => v = .int .u64 x),
        (fun v _ => v = .int .u64 (selR xs i k)),
        (fun v _ => v = .int .u64 (sel (mk (decide (i = k))) x (selR xs i k)))
      ] (by kernel_rfl) (by kernel_rfl) (by kernel_rfl) (by decide) ⟨dstab_eq, dstab_eq, dstab_eq, dstab_eq, dstab_eq, dstab_eq, dstab_eq, dstab_eq, trivial⟩ ?steps ?fin
    case steps =>
      refine ⟨?_, ?_, ?_, ?_, ?_, ?_, ?_, ?_, trivial⟩
      · intro vs g w2 hI hF hR K hK
        simp only [Facts, fill, Act.put, z1, z2, z3, z4, z5, Nat.reduceAdd] at hF hR hK ⊢
        have k0 := (hI.cell (lt_of_cell d0)).trans d0
        go_simp
        exact hK _ () _ hI (Below.refl _ _) rfl
      · intro vs g w2 hI hF hR K hK
        simp only [Facts, fill, Act.put, z1, z2, z3, z4, z5, Nat.reduceAdd] at hF hR hK ⊢
        go_simp
        exact hK _ () _ hI (Below.refl _ _) rfl
      · intro vs g w2 hI hF hR K hK
        simp only [Facts, fill, Act.put, z1, z2, z3, z4, z5, Nat.reduceAdd] at hF hR hK ⊢
        obtain ⟨r0, r1, -⟩ := hR
        generalize vs 0 = x0, vs 1 = x1 at *
        subst r0 r1
        go_simp
        refine (equal_b i k hi hk1 _ (hwt.below hI)).mono ?_
        rintro e w3 ⟨rfl, hb⟩
        exact hK _ () _ (hI.trans (hb.mono hI.size)) hb rfl
      · intro vs g w2 hI hF hR K hK
        simp only [Facts, fill, Act.put, z1, z2, z3, z4, z5, Nat.reduceAdd] at hF hR hK ⊢
        go_simp
        exact hK _ () _ hI (Below.refl _ _) rfl
      · intro vs g w2 hI hF hR K hK
        simp only [Facts, fill, Act.put, z1, z2, z3, z4, z5, Nat.reduceAdd] at hF hR hK ⊢
        obtain ⟨r3, -⟩ := hR
        generalize vs 3 = x3 at *
        subst r3
        go_simp
        exact hK _ () _ hI (Below.refl _ _) rfl
      · intro vs g w2 hI hF hR K hK
        simp only [Facts, fill, Act.put, z1, z2, z3, z4, z5, Nat.reduceAdd] at hF hR hK ⊢
        obtain ⟨r4, -⟩ := hR
        generalize vs 4 = x4 at *
        subst r4
        have k0 := (hI.cell (lt_of_cell cx)).trans cx
        go_simp
        exact hK _ () _ hI (Below.refl _ _) rfl
      · intro vs g w2 hI hF hR K hK
        simp only [Facts, fill, Act.put, z1, z2, z3, z4, z5, Nat.reduceAdd] at hF hR hK ⊢
        have k0 := (hI.cell (lt_of_cell d1)).trans d1
        go_simp
        exact hK _ () _ hI (Below.refl _ _) rfl
      · intro vs g w2 hI hF hR K hK
        simp only [Facts, fill, Act.put, z1, z2, z3, z4, z5, Nat.reduceAdd] at hF hR hK ⊢
        obtain ⟨r2, r5, r6, -⟩ := hR
        generalize vs 2 = x2, vs 5 = x5, vs 6 = x6 at *
        subst r2 r5 r6
        go_simp
        refine (select_b (mk (decide (i = k))) x (selR xs i k) _).mono ?_
        rintro e w3 ⟨rfl, hb⟩
        exact hK _ () _ (hI.trans (hb.mono hI.size)) hb rfl
    case fin =>
      intro vs w2 hI hR
      have r7 := hR 7 (by decide)
      simp only [fill, Act.put, z1, z2, z3, z4, z5] at r7 ⊢
      clear hR
      generalize vs 7 = x7 at *
      subst r7
      have hin2 := hin.below hI
      obtain ⟨e0, g0⟩ := hin2.b0
      refine wpOps_step rfl rfl ?_
      go_simp
      have h3 := hin2.set (by simp; omega) (.int .u64 (sel (mk (decide (i = k))) x (selR xs i k)))
      rw [← HACC0.out] at h3 ⊢
      exact ⟨(Same2.of_below hI hlt).trans (same2_set (by omega) (by omega)), h3, tape_set (ht.next hI) (by omega) (by omega) _⟩
  case done =>
    rintro W ⟨hin, ht⟩ hK
    have c0 := hin.b0.1
    rw [hsz] at hK
    rw [HR.out] at c0
    gi_wp2
    refine ⟨by simp, .inl ⟨_, _, rfl, run_takeDeferred hK, ?_⟩⟩
    exact ⟨_, results_tmp rfl _ _ _, rfl, (tape_put ht (by omega) (by omega) _).out (by omega), (hin.put (by omega) (by simp) _).moved⟩
  case stop =>
    rintro c W h
    exact h.elim
set_option maxHeartbeats 1000000 in
theorem arrCount_c (p : Option Addr) (l : List Ev) (T S : Nat → Prop) (A : Option Addr) (n c : Nat) (xs : List Int) (r : Int) (w : World) (hw : ∀ W, Moved T w W → Wts W) (h : TapeO w T (.pointer p) l) (hl : l.length ≤ 100000) (hxs : SlR w S .u64 A xs) (hST : ∀ g, S g → ¬ T g) (hn : n = xs.length) (hn2 : n ≤ 1000) (hU : Us xs) (hr : (cntO xs : Int) = r) :
    Calls Tryd.prog 16 #[.pointer p, .slice A n c] w fun e w' => e = .returned (.int .u64 r) ∧ TapeO w' (fun g => T g ∨ w.heap.size ≤ g) (.pointer p) (addT (.pointer p) l (evR 1 n)) ∧ Moved T w w' := by
  have HR := Lib.hid ((cnR_done (by omega)).trans hr)
  clear hr
  subst hn
  refine (callsIn_wide (n := 9)).1 ?_
  refine callsIn_of_wp_marks Tryd.func16 rfl trivial ?_ rfl
  simp only [Tryd.ntmps16, List.size_toArray, List.length_cons, List.length_nil, Nat.reduceAdd, Nat.reduceSub, Array.replicate_succ, Array.replicate_zero, List.push_toArray, List.append_toArray, List.nil_append, List.cons_append]
  gi_wp2_with (fail)
  refine ⟨trivial, (callsIn_wide.2 (visits_any p 1 A xs.length c _)).mono ?_⟩
  rintro e w1 ⟨rfl, rfl⟩
  gi_wp2_with (fail)
  obtain ⟨os, hos⟩ : ∃ os : List Obj, os = [.cells #[.int .u64 0] 23, .cells #[.pointer p] 36, .cells #[.int .i64 1] 3, .cells #[.slice A xs.length c] 22] := ⟨_, rfl⟩
  change Code.wpIn _ _ _ _ _ _ (allocs w [.cells #[.int .u64 0] 23, .cells #[.pointer p] 36, .cells #[.int .i64 1] 3, .cells #[.slice A xs.length c] 22])
  rw [← hos]
  have hsz : (allocs w os).heap.size = w.heap.size + 4 := by rw [allocs_size, hos]; rfl
  have hbw := allocs_below os w
  have a0 : (allocs w os).heap[w.heap.size]? = some (.cells #[.int .u64 0] 23) := by have := allocs_at os w 0 (by rw [hos]; simp); rw [hos] at this ⊢; exact this
  have a1 : (allocs w os).heap[w.heap.size + 1]? = some (.cells #[.pointer p] 36) := by have := allocs_at os w 1 (by rw [hos]; simp); rw [hos] at this ⊢; exact this
  have a2 : (allocs w os).heap[w.heap.size + 1 + 1]? = some (.cells #[.int .i64 1] 3) := by have := allocs_at os w 2 (by rw [hos]; simp); rw [hos] at this ⊢; exact this
  have a3 : (allocs w os).heap[w.heap.size + 1 + 1 + 1]? = some (.cells #[.slice A xs.length c] 22) := by have := allocs_at os w 3 (by rw [hos]; simp); rw [hos] at this ⊢; exact this
  generalize allocs w os = Wc at hsz hbw a0 a1 a2 a3 ⊢
  clear hos os
  obtain ⟨b, o, hA⟩ : ∃ b o, 0 < xs.length → A = some ⟨b, o, none⟩ := by
    by_cases h0 : 0 < xs.length
    · obtain ⟨b, o, e, _⟩ := hxs h0; exact ⟨b, o, fun _ => e⟩
    · exact ⟨0, 0, fun h => absurd h h0⟩
  refine wpIn_rangeFunc_y (F := Fence.wide) rfl (by decide) (gf := 38) rfl trivial (enters_of Tryd.func38 (by kernel_rfl) rfl)
    (visits_y w T T (fun _ h => h) (w.heap.size + 6) (w.heap.size + 1 + 1 + 1) (w.heap.size + 1) (w.heap.size + 1 + 1) A b o xs.length c hA hn2 (.pointer p) l hl 1 (by decide)) (fun _ => rfl)
    (fun k W => In w T (w.heap.size + 6) [(w.heap.size, .int .u64 (cnR xs k), 23), (w.heap.size + 1 + 1 + 1, .slice A xs.length c, 22), (w.heap.size + 1, .pointer p, 36), (w.heap.size + 1 + 1, .int .i64 1, 3)] W ∧ TapeO W (Star w T (w.heap.size + 6)) (.pointer p) (addT (.pointer p) l (evR 1 k)))
    (fun k W => In w T (w.heap.size + 6) [(w.heap.size, .int .u64 (cnR xs k), 23), (w.heap.size + 1 + 1 + 1, .slice A xs.length c, 22), (w.heap.size + 1, .pointer p, 36), (w.heap.size + 1 + 1, .int .i64 1, 3)] W ∧ TapeO W (Star w T (w.heap.size + 6)) (.pointer p) (addT (.pointer p) l (evR 1 (k + 1))))
    (fun _ _ => False) ?hI ?hIm (fun _ _ _ h => h) ?h0 ?hpre ?hst ?hfi (fun _ _ _ _ h => h.elim)
    (fun k => { tmps := #[.pointer p, .slice A xs.length c, undef, undef, .int .u64 0, .pointer (some ⟨w.heap.size, 0, none⟩), undef, .pointer (some ⟨b, o + k, none⟩), .pointer p, .slice A xs.length c, .func (.func 38) #[] #[.pointer (some ⟨w.heap.size + 1 + 1 + 1, 0, none⟩), .pointer (some ⟨w.heap.size + 1, 0, none⟩), .pointer (some ⟨w.heap.size + 1 + 1, 0, none⟩)], .int .u64 k, .pointer (some ⟨b, o + k, none⟩), undef, undef, undef, undef, undef, undef, undef], defers := [] })
    ?assign ?body ?done ?stop
  case hI => exact fun k W o h => ⟨h.1.put (by omega) (by simp; omega) o, tape_put h.2 (by omega) (by omega) o⟩
  case hIm => exact fun k W o h => ⟨h.1.put (by omega) (by simp; omega) o, tape_put h.2 (by omega) (by omega) o⟩
  case h0 =>
    refine fun o => ⟨In.start hbw ?_ (by omega) _ _, ?_⟩
    · simp only [List.forall_mem_cons, List.not_mem_nil, false_imp_iff, implies_true, and_true]
      exact ⟨⟨by omega, a0⟩, ⟨by omega, a3⟩, ⟨by omega, a1⟩, by omega, a2⟩
    · have := tape_start h hbw (w.heap.size + 6) (.deferred (some [])) o
      rwa [addT_zero h]
  case hpre => exact fun k W h => ⟨h.1.sub (by simp), h.2⟩
  case hst => exact fun k W W' _ hlt h hs => ⟨hs.2.same2 (by omega) (by omega) (by omega), h.1.step (fun _ h => h) hs.2, hs.1⟩
  case hfi => rintro W W' _ h rfl; exact ⟨Same2.refl _ _, h⟩
  case assign =>
    intro r k W K hK
    gi_wp2
    exact hK
  case body =>
    rintro r k W hkn hlt ⟨hin, ht⟩
    have hwt := hw W hin.moved
    obtain rfl := hA (by omega)
    obtain ⟨b', o', e, hb', hcx⟩ := hxs.dgt_ hkn
    injection e with e
    injection e with e1 e2
    subst e1 e2
    have cx : W.cell? ⟨b, o + k, none⟩ = some (.int .u64 (dgt xs k)) := by rw [hin.moved.cell (cell_lt hcx) (hST _ hb')]; exact hcx
    obtain ⟨d0, f0⟩ := hin.b0
    have hk1 : U (k : Int) := by unfold U; omega
    have hmx : Tryd.prog.follows .mixedOrders = true := by kernel_rfl
    clear hcx
    have hUx := Us_dgt hU k
    have HACC0 := Lib.hid (show cnR xs (k + 1) = IntKind.u64.wrap (cnR xs k + dgt xs k % 2) from rfl)
    generalize dgt xs k = x at cx hUx HACC0
    gi_wp2
    refine dir_round hmx (by kernel_rfl) (fun _ _ h => h) 6 [[], [], [(14, 1)], [(15, 2)], [(16, 3)], [(13, 0), (17, 4)], [(18, 5)]] [(13, 0), (14, 1), (15, 2), (16, 3), (17, 4), (18, 5)] [
        (fun v _ => v = .int .u64 (cnR xs k)),
        (fun v _ => v = .pointer (some ⟨b, o + k, none⟩)),
        (fun v _ => v = .pointer (some ⟨b, o + k, none⟩)),
        (fun v _ => v = .int .u64 x),
        (fun v _ => v = .int .u64 (x % 2)),
        (fun v _ => v = .int .u64 (IntKind.u64.wrap ((cnR xs k) + (x % 2))))
      ] (by kernel_rfl) (by kernel_rfl) (by kernel_rfl) (by decide) ⟨dstab_eq, dstab_eq, dstab_eq, dstab_eq, dstab_eq, dstab_eq, trivial⟩ ?steps ?fin
    case steps =>
      refine ⟨?_, ?_, ?_, ?_, ?_, ?_, trivial⟩
      · intro vs g w2 hI hF hR K hK
        simp only [Facts, fill, Act.put, z1, z2, z3, z4, z5, Nat.reduceAdd] at hF hR hK ⊢
        have k0 := (hI.cell (lt_of_cell d0)).trans d0
        go_simp
        exact hK _ () _ hI (Below.refl _ _) rfl
      · intro vs g w2 hI hF hR K hK
        simp only [Facts, fill, Act.put, z1, z2, z3, z4, z5, Nat.reduceAdd] at hF hR hK ⊢
        go_simp
        exact hK _ () _ hI (Below.refl _ _) rfl
      · intro vs g w2 hI hF hR K hK
        simp only [Facts, fill, Act.put, z1, z2, z3, z4, z5, Nat.reduceAdd] at hF hR hK ⊢
        obtain ⟨r1, -⟩ := hR
        generalize vs 1 = x1 at *
        subst r1
        go_simp
        exact hK _ () _ hI (Below.refl _ _) rfl
      · intro vs g w2 hI hF hR K hK
        simp only [Facts, fill, Act.put, z1, z2, z3, z4, z5, Nat.reduceAdd] at hF hR hK ⊢
        obtain ⟨r2, -⟩ := hR
        generalize vs 2 = x2 at *
        subst r2
        have k0 := (hI.cell (lt_of_cell cx)).trans cx
        go_simp
        exact hK _ () _ hI (Below.refl _ _) rfl
      · intro vs g w2 hI hF hR K hK
        simp only [Facts, fill, Act.put, z1, z2, z3, z4, z5, Nat.reduceAdd] at hF hR hK ⊢
        obtain ⟨r3, -⟩ := hR
        generalize vs 3 = x3 at *
        subst r3
        go_simp
        refine (bit_b x hUx _).mono ?_
        rintro e w3 ⟨rfl, hb⟩
        exact hK _ () _ (hI.trans (hb.mono hI.size)) hb rfl
      · intro vs g w2 hI hF hR K hK
        simp only [Facts, fill, Act.put, z1, z2, z3, z4, z5, Nat.reduceAdd] at hF hR hK ⊢
        obtain ⟨r0, r4, -⟩ := hR
        generalize vs 0 = x0, vs 4 = x4 at *
        subst r0 r4
        go_simp
        exact hK _ () _ hI (Below.refl _ _) rfl
    case fin =>
      intro vs w2 hI hR
      have r5 := hR 5 (by decide)
      simp only [fill, Act.put, z1, z2, z3, z4, z5] at r5 ⊢
      clear hR
      generalize vs 5 = x5 at *
      subst r5
      have hin2 := hin.below hI
      obtain ⟨e0, g0⟩ := hin2.b0
      refine wpOps_step rfl rfl ?_
      go_simp
      have h3 := hin2.set (by simp; omega) (.int .u64 (IntKind.u64.wrap (cnR xs k + x % 2)))
      rw [← HACC0.out] at h3 ⊢
      exact ⟨(Same2.of_below hI hlt).trans (same2_set (by omega) (by omega)), h3, tape_set (ht.next hI) (by omega) (by omega) _⟩
  case done =>
    rintro W ⟨hin, ht⟩ hK
    have c0 := hin.b0.1
    rw [hsz] at hK
    rw [HR.out] at c0
    gi_wp2
    refine ⟨by simp, .inl ⟨_, _, rfl, run_takeDeferred hK, ?_⟩⟩
    exact ⟨_, results_tmp rfl _ _ _, rfl, (tape_put ht (by omega) (by omega) _).out (by omega), (hin.put (by omega) (by simp) _).moved⟩
  case stop =>
    rintro c W h
    exact h.elim
set_option maxHeartbeats 1000000 in
theorem arrAll_c (p : Option Addr) (l : List Ev) (T S : Nat → Prop) (A : Option Addr) (n c : Nat) (xs : List Int) (r : Int) (w : World) (hw : ∀ W, Moved T w W → Wts W) (h : TapeO w T (.pointer p) l) (hl : l.length ≤ 100000) (hxs : SlR w S .u64 A xs) (hST : ∀ g, S g → ¬ T g) (hn : n = xs.length) (hn2 : n ≤ 1000) (hU : Us xs) (hr : andL xs = r) :
    Calls Tryd.prog 20 #[.pointer p, .slice A n c] w fun e w' => e = .returned (.int .u64 r) ∧ TapeO w' (fun g => T g ∨ w.heap.size ≤ g) (.pointer p) (addT (.pointer p) l (evR 1 n)) ∧ Moved T w w' := by
  have HR := Lib.hid ((anR_done xs).trans hr)
  clear hr
  subst hn
  refine (callsIn_wide (n := 9)).1 ?_
  refine callsIn_of_wp_marks Tryd.func20 rfl trivial ?_ rfl
  simp only [Tryd.ntmps20, List.size_toArray, List.length_cons, List.length_nil, Nat.reduceAdd, Nat.reduceSub, Array.replicate_succ, Array.replicate_zero, List.push_toArray, List.append_toArray, List.nil_append, List.cons_append]
  gi_wp2_with (fail)
  refine ⟨trivial, (callsIn_wide.2 (visits_any p 1 A xs.length c _)).mono ?_⟩
  rintro e w1 ⟨rfl, rfl⟩
  gi_wp2_with (fail)
  obtain ⟨os, hos⟩ : ∃ os : List Obj, os = [.cells #[.int .u64 18446744073709551615] 23, .cells #[.pointer p] 36, .cells #[.int .i64 1] 3, .cells #[.slice A xs.length c] 22] := ⟨_, rfl⟩
  change Code.wpIn _ _ _ _ _ _ (allocs w [.cells #[.int .u64 18446744073709551615] 23, .cells #[.pointer p] 36, .cells #[.int .i64 1] 3, .cells #[.slice A xs.length c] 22])
  rw [← hos]
  have hsz : (allocs w os).heap.size = w.heap.size + 4 := by rw [allocs_size, hos]; rfl
  have hbw := allocs_below os w
  have a0 : (allocs w os).heap[w.heap.size]? = some (.cells #[.int .u64 18446744073709551615] 23) := by have := allocs_at os w 0 (by rw [hos]; simp); rw [hos] at this ⊢; exact this
  have a1 : (allocs w os).heap[w.heap.size + 1]? = some (.cells #[.pointer p] 36) := by have := allocs_at os w 1 (by rw [hos]; simp); rw [hos] at this ⊢; exact this
  have a2 : (allocs w os).heap[w.heap.size + 1 + 1]? = some (.cells #[.int .i64 1] 3) := by have := allocs_at os w 2 (by rw [hos]; simp); rw [hos] at this ⊢; exact this
  have a3 : (allocs w os).heap[w.heap.size + 1 + 1 + 1]? = some (.cells #[.slice A xs.length c] 22) := by have := allocs_at os w 3 (by rw [hos]; simp); rw [hos] at this ⊢; exact this
  generalize allocs w os = Wc at hsz hbw a0 a1 a2 a3 ⊢
  clear hos os
  obtain ⟨b, o, hA⟩ : ∃ b o, 0 < xs.length → A = some ⟨b, o, none⟩ := by
    by_cases h0 : 0 < xs.length
    · obtain ⟨b, o, e, _⟩ := hxs h0; exact ⟨b, o, fun _ => e⟩
    · exact ⟨0, 0, fun h => absurd h h0⟩
  refine wpIn_rangeFunc_y (F := Fence.wide) rfl (by decide) (gf := 38) rfl trivial (enters_of Tryd.func38 (by kernel_rfl) rfl)
    (visits_y w T T (fun _ h => h) (w.heap.size + 6) (w.heap.size + 1 + 1 + 1) (w.heap.size + 1) (w.heap.size + 1 + 1) A b o xs.length c hA hn2 (.pointer p) l hl 1 (by decide)) (fun _ => rfl)
    (fun k W => In w T (w.heap.size + 6) [(w.heap.size, .int .u64 (anR xs k), 23), (w.heap.size + 1 + 1 + 1, .slice A xs.length c, 22), (w.heap.size + 1, .pointer p, 36), (w.heap.size + 1 + 1, .int .i64 1, 3)] W ∧ TapeO W (Star w T (w.heap.size + 6)) (.pointer p) (addT (.pointer p) l (evR 1 k)))
    (fun k W => In w T (w.heap.size + 6) [(w.heap.size, .int .u64 (anR xs k), 23), (w.heap.size + 1 + 1 + 1, .slice A xs.length c, 22), (w.heap.size + 1, .pointer p, 36), (w.heap.size + 1 + 1, .int .i64 1, 3)] W ∧ TapeO W (Star w T (w.heap.size + 6)) (.pointer p) (addT (.pointer p) l (evR 1 (k + 1))))
    (fun _ _ => False) ?hI ?hIm (fun _ _ _ h => h) ?h0 ?hpre ?hst ?hfi (fun _ _ _ _ h => h.elim)
    (fun k => { tmps := #[.pointer p, .slice A xs.length c, undef, undef, .int .u64 0, .pointer (some ⟨w.heap.size, 0, none⟩), undef, .pointer (some ⟨b, o + k, none⟩), .pointer p, .slice A xs.length c, .func (.func 38) #[] #[.pointer (some ⟨w.heap.size + 1 + 1 + 1, 0, none⟩), .pointer (some ⟨w.heap.size + 1, 0, none⟩), .pointer (some ⟨w.heap.size + 1 + 1, 0, none⟩)], .int .u64 k, .pointer (some ⟨b, o + k, none⟩), undef, undef, undef, undef, undef, undef], defers := [] })
    ?assign ?body ?done ?stop
  case hI => exact fun k W o h => ⟨h.1.put (by omega) (by simp; omega) o, tape_put h.2 (by omega) (by omega) o⟩
  case hIm => exact fun k W o h => ⟨h.1.put (by omega) (by simp; omega) o, tape_put h.2 (by omega) (by omega) o⟩
  case h0 =>
    refine fun o => ⟨In.start hbw ?_ (by omega) _ _, ?_⟩
    · simp only [List.forall_mem_cons, List.not_mem_nil, false_imp_iff, implies_true, and_true]
      exact ⟨⟨by omega, a0⟩, ⟨by omega, a3⟩, ⟨by omega, a1⟩, by omega, a2⟩
    · have := tape_start h hbw (w.heap.size + 6) (.deferred (some [])) o
      rwa [addT_zero h]
  case hpre => exact fun k W h => ⟨h.1.sub (by simp), h.2⟩
  case hst => exact fun k W W' _ hlt h hs => ⟨hs.2.same2 (by omega) (by omega) (by omega), h.1.step (fun _ h => h) hs.2, hs.1⟩
  case hfi => rintro W W' _ h rfl; exact ⟨Same2.refl _ _, h⟩
  case assign =>
    intro r k W K hK
    gi_wp2
    exact hK
  case body =>
    rintro r k W hkn hlt ⟨hin, ht⟩
    have hwt := hw W hin.moved
    obtain rfl := hA (by omega)
    obtain ⟨b', o', e, hb', hcx⟩ := hxs.dgt_ hkn
    injection e with e
    injection e with e1 e2
    subst e1 e2
    have cx : W.cell? ⟨b, o + k, none⟩ = some (.int .u64 (dgt xs k)) := by rw [hin.moved.cell (cell_lt hcx) (hST _ hb')]; exact hcx
    obtain ⟨d0, f0⟩ := hin.b0
    have hk1 : U (k : Int) := by unfold U; omega
    have hmx : Tryd.prog.follows .mixedOrders = true := by kernel_rfl
    clear hcx
    have hUx := Us_dgt hU k
    have HACC0 := Lib.hid (show anR xs (k + 1) = bits .and .u64 (anR xs k) (dgt xs k) from rfl)
    generalize dgt xs k = x at cx hUx HACC0
    gi_wp2
    refine dir_round hmx (by kernel_rfl) (fun _ _ h => h) 5 [[], [], [(14, 1)], [(15, 2)], [(13, 0), (16, 3)], [(17, 4)]] [(13, 0), (14, 1), (15, 2), (16, 3), (17, 4)] [
        (fun v _ => v = .int .u64 (anR xs k)),
        (fun v _ => v = .pointer (some ⟨b, o + k, none⟩)),
        (fun v _ => v = .pointer (some ⟨b, o + k, none⟩)),
        (fun v _ => v = .int .u64 x),
        (fun v _ => v = .int .u64 (bits .and .u64 (anR xs k) x))
      ] (by kernel_rfl) (by kernel_rfl) (by kernel_rfl) (by decide) ⟨dstab_eq, dstab_eq, dstab_eq, dstab_eq, dstab_eq, trivial⟩ ?steps ?fin
    case steps =>
      refine ⟨?_, ?_, ?_, ?_, ?_, trivial⟩
      · intro vs g w2 hI hF hR K hK
        simp only [Facts, fill, Act.put, z1, z2, z3, z4, z5, Nat.reduceAdd] at hF hR hK ⊢
        have k0 := (hI.cell (lt_of_cell d0)).trans d0
        go_simp
        exact hK _ () _ hI (Below.refl _ _) rfl
      · intro vs g w2 hI hF hR K hK
        simp only [Facts, fill, Act.put, z1, z2, z3, z4, z5, Nat.reduceAdd] at hF hR hK ⊢
        go_simp
        exact hK _ () _ hI (Below.refl _ _) rfl
      · intro vs g w2 hI hF hR K hK
        simp only [Facts, fill, Act.put, z1, z2, z3, z4, z5, Nat.reduceAdd] at hF hR hK ⊢
        obtain ⟨r1, -⟩ := hR
        generalize vs 1 = x1 at *
        subst r1
        go_simp
        exact hK _ () _ hI (Below.refl _ _) rfl
      · intro vs g w2 hI hF hR K hK
        simp only [Facts, fill, Act.put, z1, z2, z3, z4, z5, Nat.reduceAdd] at hF hR hK ⊢
        obtain ⟨r2, -⟩ := hR
        generalize vs 2 = x2 at *
        subst r2
        have k0 := (hI.cell (lt_of_cell cx)).trans cx
        go_simp
        exact hK _ () _ hI (Below.refl _ _) rfl
      · intro vs g w2 hI hF hR K hK
        simp only [Facts, fill, Act.put, z1, z2, z3, z4, z5, Nat.reduceAdd] at hF hR hK ⊢
        obtain ⟨r0, r3, -⟩ := hR
        generalize vs 0 = x0, vs 3 = x3 at *
        subst r0 r3
        go_simp
        exact hK _ () _ hI (Below.refl _ _) rfl
    case fin =>
      intro vs w2 hI hR
      have r4 := hR 4 (by decide)
      simp only [fill, Act.put, z1, z2, z3, z4, z5] at r4 ⊢
      clear hR
      generalize vs 4 = x4 at *
      subst r4
      have hin2 := hin.below hI
      obtain ⟨e0, g0⟩ := hin2.b0
      refine wpOps_step rfl rfl ?_
      go_simp
      have h3 := hin2.set (by simp; omega) (.int .u64 (bits .and .u64 (anR xs k) x))
      rw [← HACC0.out] at h3 ⊢
      exact ⟨(Same2.of_below hI hlt).trans (same2_set (by omega) (by omega)), h3, tape_set (ht.next hI) (by omega) (by omega) _⟩
  case done =>
    rintro W ⟨hin, ht⟩ hK
    have c0 := hin.b0.1
    rw [hsz] at hK
    rw [HR.out] at c0
    gi_wp2
    refine ⟨by simp, .inl ⟨_, _, rfl, run_takeDeferred hK, ?_⟩⟩
    exact ⟨_, results_tmp rfl _ _ _, rfl, (tape_put ht (by omega) (by omega) _).out (by omega), (hin.put (by omega) (by simp) _).moved⟩
  case stop =>
    rintro c W h
    exact h.elim
set_option maxHeartbeats 1000000 in
theorem arrSome_c (p : Option Addr) (l : List Ev) (T S : Nat → Prop) (A : Option Addr) (n c : Nat) (xs : List Int) (r : Int) (w : World) (hw : ∀ W, Moved T w W → Wts W) (h : TapeO w T (.pointer p) l) (hl : l.length ≤ 100000) (hxs : SlR w S .u64 A xs) (hST : ∀ g, S g → ¬ T g) (hn : n = xs.length) (hn2 : n ≤ 1000) (hU : Us xs) (hr : orL xs = r) :
    Calls Tryd.prog 21 #[.pointer p, .slice A n c] w fun e w' => e = .returned (.int .u64 r) ∧ TapeO w' (fun g => T g ∨ w.heap.size ≤ g) (.pointer p) (addT (.pointer p) l (evR 1 n)) ∧ Moved T w w' := by
  have HR := Lib.hid ((orR_done xs).trans hr)
  clear hr
  subst hn
  refine (callsIn_wide (n := 9)).1 ?_
  refine callsIn_of_wp_marks Tryd.func21 rfl trivial ?_ rfl
  simp only [Tryd.ntmps21, List.size_toArray, List.length_cons, List.length_nil, Nat.reduceAdd, Nat.reduceSub, Array.replicate_succ, Array.replicate_zero, List.push_toArray, List.append_toArray, List.nil_append, List.cons_append]
  gi_wp2_with (fail)
  refine ⟨trivial, (callsIn_wide.2 (visits_any p 1 A xs.length c _)).mono ?_⟩
  rintro e w1 ⟨rfl, rfl⟩
  gi_wp2_with (fail)
  obtain ⟨os, hos⟩ : ∃ os : List Obj, os = [.cells #[.int .u64 0] 23, .cells #[.pointer p] 36, .cells #[.int .i64 1] 3, .cells #[.slice A xs.length c] 22] := ⟨_, rfl⟩
  change Code.wpIn _ _ _ _ _ _ (allocs w [.cells #[.int .u64 0] 23, .cells #[.pointer p] 36, .cells #[.int .i64 1] 3, .cells #[.slice A xs.length c] 22])
  rw [← hos]
  have hsz : (allocs w os).heap.size = w.heap.size + 4 := by rw [allocs_size, hos]; rfl
  have hbw := allocs_below os w
  have a0 : (allocs w os).heap[w.heap.size]? = some (.cells #[.int .u64 0] 23) := by have := allocs_at os w 0 (by rw [hos]; simp); rw [hos] at this ⊢; exact this
  have a1 : (allocs w os).heap[w.heap.size + 1]? = some (.cells #[.pointer p] 36) := by have := allocs_at os w 1 (by rw [hos]; simp); rw [hos] at this ⊢; exact this
  have a2 : (allocs w os).heap[w.heap.size + 1 + 1]? = some (.cells #[.int .i64 1] 3) := by have := allocs_at os w 2 (by rw [hos]; simp); rw [hos] at this ⊢; exact this
  have a3 : (allocs w os).heap[w.heap.size + 1 + 1 + 1]? = some (.cells #[.slice A xs.length c] 22) := by have := allocs_at os w 3 (by rw [hos]; simp); rw [hos] at this ⊢; exact this
  generalize allocs w os = Wc at hsz hbw a0 a1 a2 a3 ⊢
  clear hos os
  obtain ⟨b, o, hA⟩ : ∃ b o, 0 < xs.length → A = some ⟨b, o, none⟩ := by
    by_cases h0 : 0 < xs.length
    · obtain ⟨b, o, e, _⟩ := hxs h0; exact ⟨b, o, fun _ => e⟩
    · exact ⟨0, 0, fun h => absurd h h0⟩
  refine wpIn_rangeFunc_y (F := Fence.wide) rfl (by decide) (gf := 38) rfl trivial (enters_of Tryd.func38 (by kernel_rfl) rfl)
    (visits_y w T T (fun _ h => h) (w.heap.size + 6) (w.heap.size + 1 + 1 + 1) (w.heap.size + 1) (w.heap.size + 1 + 1) A b o xs.length c hA hn2 (.pointer p) l hl 1 (by decide)) (fun _ => rfl)
    (fun k W => In w T (w.heap.size + 6) [(w.heap.size, .int .u64 (orR xs k), 23), (w.heap.size + 1 + 1 + 1, .slice A xs.length c, 22), (w.heap.size + 1, .pointer p, 36), (w.heap.size + 1 + 1, .int .i64 1, 3)] W ∧ TapeO W (Star w T (w.heap.size + 6)) (.pointer p) (addT (.pointer p) l (evR 1 k)))
    (fun k W => In w T (w.heap.size + 6) [(w.heap.size, .int .u64 (orR xs k), 23), (w.heap.size + 1 + 1 + 1, .slice A xs.length c, 22), (w.heap.size + 1, .pointer p, 36), (w.heap.size + 1 + 1, .int .i64 1, 3)] W ∧ TapeO W (Star w T (w.heap.size + 6)) (.pointer p) (addT (.pointer p) l (evR 1 (k + 1))))
    (fun _ _ => False) ?hI ?hIm (fun _ _ _ h => h) ?h0 ?hpre ?hst ?hfi (fun _ _ _ _ h => h.elim)
    (fun k => { tmps := #[.pointer p, .slice A xs.length c, undef, undef, .int .u64 0, .pointer (some ⟨w.heap.size, 0, none⟩), undef, .pointer (some ⟨b, o + k, none⟩), .pointer p, .slice A xs.length c, .func (.func 38) #[] #[.pointer (some ⟨w.heap.size + 1 + 1 + 1, 0, none⟩), .pointer (some ⟨w.heap.size + 1, 0, none⟩), .pointer (some ⟨w.heap.size + 1 + 1, 0, none⟩)], .int .u64 k, .pointer (some ⟨b, o + k, none⟩), undef, undef, undef, undef, undef, undef], defers := [] })
    ?assign ?body ?done ?stop
  case hI => exact fun k W o h => ⟨h.1.put (by omega) (by simp; omega) o, tape_put h.2 (by omega) (by omega) o⟩
  case hIm => exact fun k W o h => ⟨h.1.put (by omega) (by simp; omega) o, tape_put h.2 (by omega) (by omega) o⟩
  case h0 =>
    refine fun o => ⟨In.start hbw ?_ (by omega) _ _, ?_⟩
    · simp only [List.forall_mem_cons, List.not_mem_nil, false_imp_iff, implies_true, and_true]
      exact ⟨⟨by omega, a0⟩, ⟨by omega, a3⟩, ⟨by omega, a1⟩, by omega, a2⟩
    · have := tape_start h hbw (w.heap.size + 6) (.deferred (some [])) o
      rwa [addT_zero h]
  case hpre => exact fun k W h => ⟨h.1.sub (by simp), h.2⟩
  case hst => exact fun k W W' _ hlt h hs => ⟨hs.2.same2 (by omega) (by omega) (by omega), h.1.step (fun _ h => h) hs.2, hs.1⟩
  case hfi => rintro W W' _ h rfl; exact ⟨Same2.refl _ _, h⟩
  case assign =>
    intro r k W K hK
    gi_wp2
    exact hK
  case body =>
    rintro r k W hkn hlt ⟨hin, ht⟩
    have hwt := hw W hin.moved
    obtain rfl := hA (by omega)
    obtain ⟨b', o', e, hb', hcx⟩ := hxs.dgt_ hkn
    injection e with e
    injection e with e1 e2
    subst e1 e2
    have cx : W.cell? ⟨b, o + k, none⟩ = some (.int .u64 (dgt xs k)) := by rw [hin.moved.cell (cell_lt hcx) (hST _ hb')]; exact hcx
    obtain ⟨d0, f0⟩ := hin.b0
    have hk1 : U (k : Int) := by unfold U; omega
    have hmx : Tryd.prog.follows .mixedOrders = true := by kernel_rfl
    clear hcx
    have hUx := Us_dgt hU k
    have HACC0 := Lib.hid (show orR xs (k + 1) = bits .or .u64 (orR xs k) (dgt xs k) from rfl)
    generalize dgt xs k = x at cx hUx HACC0
    gi_wp2
    refine dir_round hmx (by kernel_rfl) (fun _ _ h => h) 5 [[], [], [(14, 1)], [(15, 2)], [(13, 0), (16, 3)], [(17, 4)]] [(13, 0), (14, 1), (15, 2), (16, 3), (17, 4)] [
        (fun v _ => v = .int .u64 (orR xs k)),
        (fun v _ => v = .pointer (some ⟨b, o + k, none⟩)),
        (fun v _ => v = .pointer (some ⟨b, o + k, none⟩)),
        (fun v _ => v = .int .u64 x),
        (fun v _ => v = .int .u64 (bits .or .u64 (orR xs k) x))
      ] (by kernel_rfl) (by kernel_rfl) (by kernel_rfl) (by decide) ⟨dstab_eq, dstab_eq, dstab_eq, dstab_eq, dstab_eq, trivial⟩ ?steps ?fin
    case steps =>
      refine ⟨?_, ?_, ?_, ?_, ?_, trivial⟩
      · intro vs g w2 hI hF hR K hK
        simp only [Facts, fill, Act.put, z1, z2, z3, z4, z5, Nat.reduceAdd] at hF hR hK ⊢
        have k0 := (hI.cell (lt_of_cell d0)).trans d0
        go_simp
        exact hK _ () _ hI (Below.refl _ _) rfl
      · intro vs g w2 hI hF hR K hK
        simp only [Facts, fill, Act.put, z1, z2, z3, z4, z5, Nat.reduceAdd] at hF hR hK ⊢
        go_simp
        exact hK _ () _ hI (Below.refl _ _) rfl
      · intro vs g w2 hI hF hR K hK
        simp only [Facts, fill, Act.put, z1, z2, z3, z4, z5, Nat.reduceAdd] at hF hR hK ⊢
        obtain ⟨r1, -⟩ := hR
        generalize vs 1 = x1 at *
        subst r1
        go_simp
        exact hK _ () _ hI (Below.refl _ _) rfl
      · intro vs g w2 hI hF hR K hK
        simp only [Facts, fill, Act.put, z1, z2, z3, z4, z5, Nat.reduceAdd] at hF hR hK ⊢
        obtain ⟨r2, -⟩ := hR
        generalize vs 2 = x2 at *
        subst r2
        have k0 := (hI.cell (lt_of_cell cx)).trans cx
        go_simp
        exact hK _ () _ hI (Below.refl _ _) rfl
      · intro vs g w2 hI hF hR K hK
        simp only [Facts, fill, Act.put, z1, z2, z3, z4, z5, Nat.reduceAdd] at hF hR hK ⊢
        obtain ⟨r0, r3, -⟩ := hR
        generalize vs 0 = x0, vs 3 = x3 at *
        subst r0 r3
        go_simp
        exact hK _ () _ hI (Below.refl _ _) rfl
    case fin =>
      intro vs w2 hI hR
      have r4 := hR 4 (by decide)
      simp only [fill, Act.put, z1, z2, z3, z4, z5] at r4 ⊢
      clear hR
      generalize vs 4 = x4 at *
      subst r4
      have hin2 := hin.below hI
      obtain ⟨e0, g0⟩ := hin2.b0
      refine wpOps_step rfl rfl ?_
      go_simp
      have h3 := hin2.set (by simp; omega) (.int .u64 (bits .or .u64 (orR xs k) x))
      rw [← HACC0.out] at h3 ⊢
      exact ⟨(Same2.of_below hI hlt).trans (same2_set (by omega) (by omega)), h3, tape_set (ht.next hI) (by omega) (by omega) _⟩
  case done =>
    rintro W ⟨hin, ht⟩ hK
    have c0 := hin.b0.1
    rw [hsz] at hK
    rw [HR.out] at c0
    gi_wp2
    refine ⟨by simp, .inl ⟨_, _, rfl, run_takeDeferred hK, ?_⟩⟩
    exact ⟨_, results_tmp rfl _ _ _, rfl, (tape_put ht (by omega) (by omega) _).out (by omega), (hin.put (by omega) (by simp) _).moved⟩
  case stop =>
    rintro c W h
    exact h.elim
set_option maxHeartbeats 1000000 in
theorem arrFirst_c (p : Option Addr) (l : List Ev) (T S : Nat → Prop) (A : Option Addr) (n c : Nat) (xs : List Int) (r : Int) (w : World) (hw : ∀ W, Moved T w W → Wts W) (h : TapeO w T (.pointer p) l) (hl : l.length ≤ 100000) (hxs : SlR w S .u64 A xs) (hST : ∀ g, S g → ¬ T g) (hn : n = xs.length) (hn2 : n ≤ 1000) (hU : Us xs) (hr : (fstO xs : Int) = r) :
    Calls Tryd.prog 17 #[.pointer p, .slice A n c] w fun e w' => e = .returned (.int .u64 r) ∧ TapeO w' (fun g => T g ∨ w.heap.size ≤ g) (.pointer p) (addT (.pointer p) l (evR 1 n)) ∧ Moved T w w' := by
  have HR := Lib.hid ((bfR_done (by omega)).trans hr)
  clear hr
  subst hn
  refine (callsIn_wide (n := 9)).1 ?_
  refine callsIn_of_wp_marks Tryd.func17 rfl trivial ?_ rfl
  simp only [Tryd.ntmps17, List.size_toArray, List.length_cons, List.length_nil, Nat.reduceAdd, Nat.reduceSub, Array.replicate_succ, Array.replicate_zero, List.push_toArray, List.append_toArray, List.nil_append, List.cons_append]
  gi_wp2_with (fail)
  refine ⟨trivial, (callsIn_wide.2 (visits_any p 1 A xs.length c _)).mono ?_⟩
  rintro e w1 ⟨rfl, rfl⟩
  gi_wp2_with (fail)
  obtain ⟨os, hos⟩ : ∃ os : List Obj, os = [.cells #[.int .u64 0] 23, .cells #[.int .u64 0] 23, .cells #[.pointer p] 36, .cells #[.int .i64 1] 3, .cells #[.slice A xs.length c] 22] := ⟨_, rfl⟩
  change Code.wpIn _ _ _ _ _ _ (allocs w [.cells #[.int .u64 0] 23, .cells #[.int .u64 0] 23, .cells #[.pointer p] 36, .cells #[.int .i64 1] 3, .cells #[.slice A xs.length c] 22])
  rw [← hos]
  have hsz : (allocs w os).heap.size = w.heap.size + 5 := by rw [allocs_size, hos]; rfl
  have hbw := allocs_below os w
  have a0 : (allocs w os).heap[w.heap.size]? = some (.cells #[.int .u64 0] 23) := by have := allocs_at os w 0 (by rw [hos]; simp); rw [hos] at this ⊢; exact this
  have a1 : (allocs w os).heap[w.heap.size + 1]? = some (.cells #[.int .u64 0] 23) := by have := allocs_at os w 1 (by rw [hos]; simp); rw [hos] at this ⊢; exact this
  have a2 : (allocs w os).heap[w.heap.size + 1 + 1]? = some (.cells #[.pointer p] 36) := by have := allocs_at os w 2 (by rw [hos]; simp); rw [hos] at this ⊢; exact this
  have a3 : (allocs w os).heap[w.heap.size + 1 + 1 + 1]? = some (.cells #[.int .i64 1] 3) := by have := allocs_at os w 3 (by rw [hos]; simp); rw [hos] at this ⊢; exact this
  have a4 : (allocs w os).heap[w.heap.size + 1 + 1 + 1 + 1]? = some (.cells #[.slice A xs.length c] 22) := by have := allocs_at os w 4 (by rw [hos]; simp); rw [hos] at this ⊢; exact this
  generalize allocs w os = Wc at hsz hbw a0 a1 a2 a3 a4 ⊢
  clear hos os
  obtain ⟨b, o, hA⟩ : ∃ b o, 0 < xs.length → A = some ⟨b, o, none⟩ := by
    by_cases h0 : 0 < xs.length
    · obtain ⟨b, o, e, _⟩ := hxs h0; exact ⟨b, o, fun _ => e⟩
    · exact ⟨0, 0, fun h => absurd h h0⟩
  refine wpIn_rangeFunc_y (F := Fence.wide) rfl (by decide) (gf := 38) rfl trivial (enters_of Tryd.func38 (by kernel_rfl) rfl)
    (visits_y w T T (fun _ h => h) (w.heap.size + 7) (w.heap.size + 1 + 1 + 1 + 1) (w.heap.size + 1 + 1) (w.heap.size + 1 + 1 + 1) A b o xs.length c hA hn2 (.pointer p) l hl 1 (by decide)) (fun _ => rfl)
    (fun k W => In w T (w.heap.size + 7) [(w.heap.size + 1, .int .u64 (fdR xs k), 23), (w.heap.size, .int .u64 (bfR xs k), 23), (w.heap.size + 1 + 1 + 1 + 1, .slice A xs.length c, 22), (w.heap.size + 1 + 1, .pointer p, 36), (w.heap.size + 1 + 1 + 1, .int .i64 1, 3)] W ∧ TapeO W (Star w T (w.heap.size + 7)) (.pointer p) (addT (.pointer p) l (evR 1 k)))
    (fun k W => In w T (w.heap.size + 7) [(w.heap.size + 1, .int .u64 (fdR xs k), 23), (w.heap.size, .int .u64 (bfR xs k), 23), (w.heap.size + 1 + 1 + 1 + 1, .slice A xs.length c, 22), (w.heap.size + 1 + 1, .pointer p, 36), (w.heap.size + 1 + 1 + 1, .int .i64 1, 3)] W ∧ TapeO W (Star w T (w.heap.size + 7)) (.pointer p) (addT (.pointer p) l (evR 1 (k + 1))))
    (fun _ _ => False) ?hI ?hIm (fun _ _ _ h => h) ?h0 ?hpre ?hst ?hfi (fun _ _ _ _ h => h.elim)
    (fun k => { tmps := #[.pointer p, .slice A xs.length c, undef, undef, .int .u64 0, .pointer (some ⟨w.heap.size, 0, none⟩), .pointer (some ⟨w.heap.size + 1, 0, none⟩), undef, .pointer (some ⟨b, o + k, none⟩), .pointer p, .slice A xs.length c, .func (.func 38) #[] #[.pointer (some ⟨w.heap.size + 1 + 1 + 1 + 1, 0, none⟩), .pointer (some ⟨w.heap.size + 1 + 1, 0, none⟩), .pointer (some ⟨w.heap.size + 1 + 1 + 1, 0, none⟩)], .int .u64 k, .pointer (some ⟨b, o + k, none⟩), undef, undef, undef, undef, undef, undef, undef, undef, undef, undef, undef], defers := [] })
    ?assign ?body ?done ?stop
  case hI => exact fun k W o h => ⟨h.1.put (by omega) (by simp; omega) o, tape_put h.2 (by omega) (by omega) o⟩
  case hIm => exact fun k W o h => ⟨h.1.put (by omega) (by simp; omega) o, tape_put h.2 (by omega) (by omega) o⟩
  case h0 =>
    refine fun o => ⟨In.start hbw ?_ (by omega) _ _, ?_⟩
    · simp only [List.forall_mem_cons, List.not_mem_nil, false_imp_iff, implies_true, and_true]
      exact ⟨⟨by omega, a1⟩, ⟨by omega, a0⟩, ⟨by omega, a4⟩, ⟨by omega, a2⟩, by omega, a3⟩
    · have := tape_start h hbw (w.heap.size + 7) (.deferred (some [])) o
      rwa [addT_zero h]
  case hpre => exact fun k W h => ⟨h.1.sub (by simp), h.2⟩
  case hst => exact fun k W W' _ hlt h hs => ⟨hs.2.same2 (by omega) (by omega) (by omega), h.1.step (fun _ h => h) hs.2, hs.1⟩
  case hfi => rintro W W' _ h rfl; exact ⟨Same2.refl _ _, h⟩
  case assign =>
    intro r k W K hK
    gi_wp2
    exact hK
  case body =>
    rintro r k W hkn hlt ⟨hin, ht⟩
    have hwt := hw W hin.moved
    obtain rfl := hA (by omega)
    obtain ⟨b', o', e, hb', hcx⟩ := hxs.dgt_ hkn
    injection e with e
    injection e with e1 e2
    subst e1 e2
    have cx : W.cell? ⟨b, o + k, none⟩ = some (.int .u64 (dgt xs k)) := by rw [hin.moved.cell (cell_lt hcx) (hST _ hb')]; exact hcx
    obtain ⟨d1, f1⟩ := hin.b0
    obtain ⟨d0, f0⟩ := hin.b1
    have hk1 : U (k : Int) := by unfold U; omega
    have hmx : Tryd.prog.follows .mixedOrders = true := by kernel_rfl
    clear hcx
    have hUx := Us_dgt hU k
    have HACC0 := Lib.hid (show fdR xs (k + 1) = bits .or .u64 (fdR xs k) (dgt xs k % 2) from rfl)
    have HACC1 := Lib.hid (show bfR xs (k + 1) = IntKind.u64.wrap (bfR xs k + IntKind.u64.wrap (1 - fdR xs (k + 1))) from rfl)
    generalize dgt xs k = x at cx hUx HACC0 HACC1
    gi_wp2
    refine dir_round hmx (by kernel_rfl) (fun _ _ h => h) 6 [[], [], [(15, 1)], [(16, 2)], [(17, 3)], [(14, 0), (18, 4)], [(19, 5)]] [(14, 0), (15, 1), (16, 2), (17, 3), (18, 4), (19, 5)] [
        (fun v _ => v = .int .u64 (fdR xs k)),
        (fun v _ => v = .pointer (some ⟨b, o + k, none⟩)),
        (fun v _ => v = .pointer (some ⟨b, o + k, none⟩)),
        (fun v _ => v = .int .u64 x),
        (fun v _ => v = .int .u64 (x % 2)),
        (fun v _ => v = .int .u64 (bits .or .u64 (fdR xs k) (x % 2)))
      ] (by kernel_rfl) (by kernel_rfl) (by kernel_rfl) (by decide) ⟨dstab_eq, dstab_eq, dstab_eq, dstab_eq, dstab_eq, dstab_eq, trivial⟩ ?steps ?fin
    case steps =>
      refine ⟨?_, ?_, ?_, ?_, ?_, ?_, trivial⟩
      · intro vs g w2 hI hF hR K hK
        simp only [Facts, fill, Act.put, z1, z2, z3, z4, z5, Nat.reduceAdd] at hF hR hK ⊢
        have k0 := (hI.cell (lt_of_cell d1)).trans d1
        go_simp
        exact hK _ () _ hI (Below.refl _ _) rfl
      · intro vs g w2 hI hF hR K hK
        simp only [Facts, fill, Act.put, z1, z2, z3, z4, z5, Nat.reduceAdd] at hF hR hK ⊢
        go_simp
        exact hK _ () _ hI (Below.refl _ _) rfl
      · intro vs g w2 hI hF hR K hK
        simp only [Facts, fill, Act.put, z1, z2, z3, z4, z5, Nat.reduceAdd] at hF hR hK ⊢
        obtain ⟨r1, -⟩ := hR
        generalize vs 1 = x1 at *
        subst r1
        go_simp
        exact hK _ () _ hI (Below.refl _ _) rfl
      · intro vs g w2 hI hF hR K hK
        simp only [Facts, fill, Act.put, z1, z2, z3, z4, z5, Nat.reduceAdd] at hF hR hK ⊢
        obtain ⟨r2, -⟩ := hR
        generalize vs 2 = x2 at *
        subst r2
        have k0 := (hI.cell (lt_of_cell cx)).trans cx
        go_simp
        exact hK _ () _ hI (Below.refl _ _) rfl
      · intro vs g w2 hI hF hR K hK
        simp only [Facts, fill, Act.put, z1, z2, z3, z4, z5, Nat.reduceAdd] at hF hR hK ⊢
        obtain ⟨r3, -⟩ := hR
        generalize vs 3 = x3 at *
        subst r3
        go_simp
        refine (bit_b x hUx _).mono ?_
        rintro e w3 ⟨rfl, hb⟩
        exact hK _ () _ (hI.trans (hb.mono hI.size)) hb rfl
      · intro vs g w2 hI hF hR K hK
        simp only [Facts, fill, Act.put, z1, z2, z3, z4, z5, Nat.reduceAdd] at hF hR hK ⊢
        obtain ⟨r0, r4, -⟩ := hR
        generalize vs 0 = x0, vs 4 = x4 at *
        subst r0 r4
        go_simp
        exact hK _ () _ hI (Below.refl _ _) rfl
    case fin =>
      intro vs w2 hI hR
      have r5 := hR 5 (by decide)
      simp only [fill, Act.put, z1, z2, z3, z4, z5] at r5 ⊢
      clear hR
      generalize vs 5 = x5 at *
      subst r5
      have hin2 := hin.below hI
      obtain ⟨e0, g0⟩ := hin2.b0
      refine wpOps_step rfl rfl ?_
      go_simp
      have h3 := hin2.set (by simp; omega) (.int .u64 (bits .or .u64 (fdR xs k) (x % 2)))
      have ht3 := tape_set (ht.next hI) (k := w.heap.size + 1) (by omega) (by omega) (.int .u64 (bits .or .u64 (fdR xs k) (x % 2)))
      have hs3 : Same2 Wc.heap.size W _ := (Same2.of_below hI hlt).trans (same2_set (W := w2) (k := w.heap.size + 1) (x := .int .u64 (bits .or .u64 (fdR xs k) (x % 2))) (by omega) (by omega))
      rw [← HACC0.out] at h3 ht3 hs3 ⊢
      rw [hsz] at hs3
      generalize w2.setCell ⟨w.heap.size + 1, 0, none⟩ (.int .u64 (fdR xs (k + 1))) = w3 at h3 ht3 hs3 ⊢
      refine NoPanic.normal ?_
      obtain ⟨e1, g1⟩ := h3.b0
      obtain ⟨e2, g2⟩ := h3.b1
      clear cx d0 d1 e0 g0
      gi_wp2
      have h4 := (h3.sub (bx' := [(w.heap.size, .int .u64 (bfR xs k), 23), (w.heap.size + 1, .int .u64 (fdR xs (k + 1)), 23), (w.heap.size + 1 + 1 + 1 + 1, .slice (some ⟨b, o, none⟩) xs.length c, 22), (w.heap.size + 1 + 1, .pointer p, 36), (w.heap.size + 1 + 1 + 1, .int .i64 1, 3)]) (by simp)).set (by simp; omega) (.int .u64 (IntKind.u64.wrap (bfR xs k + IntKind.u64.wrap (1 - fdR xs (k + 1)))))
      rw [← HACC1.out] at h4 ⊢
      exact ⟨hs3.trans (same2_set (by omega) (by omega)), h4.sub (by simp), tape_set ht3 (by omega) (by omega) _⟩
  case done =>
    rintro W ⟨hin, ht⟩ hK
    have c0 := hin.b1.1
    rw [hsz] at hK
    rw [HR.out] at c0
    gi_wp2
    refine ⟨by simp, .inl ⟨_, _, rfl, run_takeDeferred hK, ?_⟩⟩
    exact ⟨_, results_tmp rfl _ _ _, rfl, (tape_put ht (by omega) (by omega) _).out (by omega), (hin.put (by omega) (by simp) _).moved⟩
  case stop =>
    rintro c W h
    exact h.elim
end Go.Proofs.YtknldcogmbbgjaaDoor
