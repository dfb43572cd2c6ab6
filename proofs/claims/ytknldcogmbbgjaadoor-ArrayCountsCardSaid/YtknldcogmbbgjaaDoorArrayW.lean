/-
  Contracts of package array over the landed code: Write.
-/
import Derived.Test.YtknldcogmbbgjaaDoorArrayA
namespace Go.Proofs.YtknldcogmbbgjaaDoor
open Go.RowKit Go.Maps Go.Shelf
set_option maxRecDepth 100000
set_option linter.unusedVariables false
set_option linter.unusedSimpArgs false
attribute [local go_sem] Oper.semAt_some

set_option maxHeartbeats 1000000 in
theorem arrWrite_c (p : Option Addr) (l : List Ev) (T : Nat → Prop) (A : Option Addr) (n c base : Nat) (ys : List Int) (i x : Int) (w : World) (hw : ∀ W, Moved (fun g => T g ∨ (Value.slice A n c).ownBlock = some g) w W → Wts W) (h : TapeO w T (.pointer p) l) (hl : l.length ≤ 100000) (hown : OwnK w base 23 .u64 (.slice A n c) ys) (hST : ∀ g, (Value.slice A n c).ownBlock = some g → ¬ T g) (hn : n = ys.length) (hn2 : n ≤ 1000) (hU : Us ys) (hi : U i) (hx : U x) :
    Calls Tryd.prog 14 #[.pointer p, .slice A n c, .int .u64 i, .int .u64 x] w fun e w' => e = .returned (.tuple #[]) ∧ OwnK w' base 23 .u64 (.slice A n c) (wrL ys i x) ∧ TapeO w' (fun g => T g ∨ w.heap.size ≤ g) (.pointer p) (addT (.pointer p) l (evR 2 n)) ∧ Moved (fun g => T g ∨ (Value.slice A n c).ownBlock = some g) w w' := by
  have HR := Lib.hid (hn ▸ wrR_done hU hi hx : wrR ys i x n = wrL ys i x)
  have HN := Lib.hid hn
  have HO := Lib.hid (fun g hg => (World.ownsRow.lt hown g hg).2 : ∀ g, (Value.slice A n c).ownBlock = some g → g < w.heap.size)
  obtain ⟨b, o, ho, hA⟩ : ∃ b o, o = 0 ∧ (0 < n → A = some ⟨b, o, none⟩) := by
    obtain ⟨A', c', e, _, h3⟩ := OwnK.slice_ hown hn.symm
    injection e with e1 e2 e3
    subst e1
    by_cases h0 : 0 < n
    · obtain ⟨g, hg, _⟩ := h3 h0; exact ⟨g, 0, rfl, fun _ => hg⟩
    · exact ⟨0, 0, rfl, fun h => absurd h h0⟩
  have HO0 := Lib.hid ho
  clear ho
  obtain ⟨V, hV⟩ : ∃ V : Nat → Prop, V = fun g => T g ∨ (Value.slice A n c).ownBlock = some g := ⟨_, rfl⟩
  have hTV : ∀ g, T g → V g := fun g hg => by rw [hV]; exact .inl hg
  have hBV : ∀ g, (Value.slice A n c).ownBlock = some g → V g := fun g hg => by rw [hV]; exact .inr hg
  rw [← hV] at hw ⊢
  clear hV hn
  refine (callsIn_wide (n := 9)).1 ?_
  refine callsIn_of_wp_marks Tryd.func14 rfl trivial ?_ rfl
  simp only [Tryd.ntmps14, List.size_toArray, List.length_cons, List.length_nil, Nat.reduceAdd, Nat.reduceSub, Array.replicate_succ, Array.replicate_zero, List.push_toArray, List.append_toArray, List.nil_append, List.cons_append]
  gi_wp2_with (fail)
  refine ⟨trivial, (callsIn_wide.2 (visits_any p 2 A n c _)).mono ?_⟩
  rintro e w1 ⟨rfl, rfl⟩
  gi_wp2_with (fail)
  obtain ⟨os, hos⟩ : ∃ os : List Obj, os = [.cells #[.int .u64 i] 23, .cells #[.int .u64 x] 23, .cells #[.pointer p] 36, .cells #[.int .i64 2] 3, .cells #[.slice A n c] 22] := ⟨_, rfl⟩
  change Code.wpIn _ _ _ _ _ _ (allocs w [.cells #[.int .u64 i] 23, .cells #[.int .u64 x] 23, .cells #[.pointer p] 36, .cells #[.int .i64 2] 3, .cells #[.slice A n c] 22])
  rw [← hos]
  have hsz : (allocs w os).heap.size = w.heap.size + 5 := by rw [allocs_size, hos]; rfl
  have hbw := allocs_below os w
  have a0 : (allocs w os).heap[w.heap.size]? = some (.cells #[.int .u64 i] 23) := by have := allocs_at os w 0 (by rw [hos]; simp); rw [hos] at this ⊢; exact this
  have a1 : (allocs w os).heap[w.heap.size + 1]? = some (.cells #[.int .u64 x] 23) := by have := allocs_at os w 1 (by rw [hos]; simp); rw [hos] at this ⊢; exact this
  have a2 : (allocs w os).heap[w.heap.size + 1 + 1]? = some (.cells #[.pointer p] 36) := by have := allocs_at os w 2 (by rw [hos]; simp); rw [hos] at this ⊢; exact this
  have a3 : (allocs w os).heap[w.heap.size + 1 + 1 + 1]? = some (.cells #[.int .i64 2] 3) := by have := allocs_at os w 3 (by rw [hos]; simp); rw [hos] at this ⊢; exact this
  have a4 : (allocs w os).heap[w.heap.size + 1 + 1 + 1 + 1]? = some (.cells #[.slice A n c] 22) := by have := allocs_at os w 4 (by rw [hos]; simp); rw [hos] at this ⊢; exact this
  generalize allocs w os = Wc at hsz hbw a0 a1 a2 a3 a4 ⊢
  clear hos os
  refine wpIn_rangeFunc_y (F := Fence.wide) rfl (by decide) (gf := 38) rfl trivial (enters_of Tryd.func38 (by kernel_rfl) rfl)
    (visits_y w T V hTV (w.heap.size + 7) (w.heap.size + 1 + 1 + 1 + 1) (w.heap.size + 1 + 1) (w.heap.size + 1 + 1 + 1) A b o n c hA hn2 (.pointer p) l hl 2 (by decide)) (fun _ => rfl)
    (fun k W => In w V (w.heap.size + 7) [(w.heap.size, .int .u64 i, 23), (w.heap.size + 1, .int .u64 x, 23), (w.heap.size + 1 + 1 + 1 + 1, .slice A n c, 22), (w.heap.size + 1 + 1, .pointer p, 36), (w.heap.size + 1 + 1 + 1, .int .i64 2, 3)] W ∧ OwnK W base 23 .u64 (.slice A n c) (wrR ys i x k) ∧ TapeO W (Star w T (w.heap.size + 7)) (.pointer p) (addT (.pointer p) l (evR 2 k)))
    (fun k W => In w V (w.heap.size + 7) [(w.heap.size, .int .u64 i, 23), (w.heap.size + 1, .int .u64 x, 23), (w.heap.size + 1 + 1 + 1 + 1, .slice A n c, 22), (w.heap.size + 1 + 1, .pointer p, 36), (w.heap.size + 1 + 1 + 1, .int .i64 2, 3)] W ∧ OwnK W base 23 .u64 (.slice A n c) (wrR ys i x k) ∧ TapeO W (Star w T (w.heap.size + 7)) (.pointer p) (addT (.pointer p) l (evR 2 (k + 1))))
    (fun _ _ => False) ?hI ?hIm (fun _ _ _ h => h) ?h0 ?hpre ?hst ?hfi (fun _ _ _ _ h => h.elim)
    (fun k => { tmps := #[.pointer p, .slice A n c, .int .u64 i, .int .u64 x, undef, undef, .pointer (some ⟨w.heap.size, 0, none⟩), .pointer (some ⟨w.heap.size + 1, 0, none⟩), .int .u64 k, .pointer (some ⟨b, o + k, none⟩), .pointer p, .slice A n c, .func (.func 38) #[] #[.pointer (some ⟨w.heap.size + 1 + 1 + 1 + 1, 0, none⟩), .pointer (some ⟨w.heap.size + 1 + 1, 0, none⟩), .pointer (some ⟨w.heap.size + 1 + 1 + 1, 0, none⟩)], .int .u64 k, .pointer (some ⟨b, o + k, none⟩), undef, undef, undef, undef, undef, undef, undef, undef, undef, undef], defers := [] })
    ?assign ?body ?done ?stop
  case hI => exact fun k W o h => ⟨h.1.put (by omega) (by simp; omega) o, h.2.1.keep_ fun g hg => World.putObj_heap_other (by have := HO.out g hg; omega), tape_put h.2.2 (by omega) (by omega) o⟩
  case hIm => exact fun k W o h => ⟨h.1.put (by omega) (by simp; omega) o, h.2.1.keep_ fun g hg => World.putObj_heap_other (by have := HO.out g hg; omega), tape_put h.2.2 (by omega) (by omega) o⟩
  case h0 =>
    refine fun o => ⟨In.start hbw ?_ (by omega) _ _, ?_, ?_⟩
    · simp only [List.forall_mem_cons, List.not_mem_nil, false_imp_iff, implies_true, and_true]
      exact ⟨⟨by omega, a0⟩, ⟨by omega, a1⟩, ⟨by omega, a4⟩, ⟨by omega, a2⟩, by omega, a3⟩
    · refine hown.keep_ fun g hg => ?_
      have hlt := HO.out g hg
      have h2 : Below Wc.heap.size Wc ((Wc.alloc (.deferred (some []))).alloc o) := ((Below.refl _ _).alloc (Nat.le_refl _) _).alloc (by simp) _
      exact (h2.block g (by omega)).trans (hbw.block g hlt)
    · have := tape_start h hbw (w.heap.size + 7) (.deferred (some [])) o
      rwa [addT_zero h]
  case hpre => exact fun k W h => ⟨h.1.sub (by simp), h.2.2⟩
  case hst =>
    refine fun k W W' _ hlt h hs => ⟨hs.2.same2 (by omega) (by omega) (by omega), h.1.step hTV hs.2, h.2.1.keep_ fun g hg => hs.2.block g (World.ownsRow.lt h.2.1 g hg).2 ?_, hs.1⟩
    have hlt := HO.out g hg
    have hng := hST g hg
    intro e
    rcases e with e | e
    · exact hng e.1
    · omega
  case hfi => rintro W W' _ h rfl; exact ⟨Same2.refl _ _, h⟩
  case assign =>
    intro r k W K hK
    gi_wp2
    exact hK
  case body =>
    rintro r k W hkn hlt ⟨hin, hrow, ht⟩
    have hwt := hw W hin.moved
    obtain rfl := hA (by omega)
    obtain rfl := HO0.out
    have hlen := Lib.hid ((wrR_len ys i x k).trans HN.out.symm)
    have hbl := HO.out b rfl
    have hbT := hST b rfl
    have hbV := hBV b rfl
    have cx0 : W.cell? ⟨b, k, none⟩ = some (.int .u64 (dgt ys k)) := by rw [OwnK.cell_ hrow hlen.out hkn, wrR_behind _ _ _ _ _ (Nat.le_refl _)]
    have fx0 : W.frozen? ⟨b, k, none⟩ = false := OwnK.frozen_ hrow hlen.out k
    obtain ⟨o, ho⟩ : ∃ o : Nat, o = 0 := ⟨0, rfl⟩
    obtain ⟨a, ha⟩ : ∃ a : Nat, a = 0 + k := ⟨_, rfl⟩
    have cx : W.cell? ⟨b, a, none⟩ = some (.int .u64 (dgt ys k)) := by rw [ha, Nat.zero_add]; exact cx0
    have fx : W.frozen? ⟨b, a, none⟩ = false := by rw [ha, Nat.zero_add]; exact fx0
    have HX := Lib.hid ha
    rw [← ha]
    clear ha ho o cx0 fx0
    obtain ⟨d0, f0⟩ := hin.b0
    obtain ⟨d1, f1⟩ := hin.b1
    have hk1 : U (k : Int) := by unfold U; omega
    have hmx : Tryd.prog.follows .mixedOrders = true := by kernel_rfl
    have HACC := Lib.hid (show wrR ys i x (k + 1) = (wrR ys i x k).set k (sel (mk (decide (i = k))) x (dgt ys k)) from rfl)
    generalize dgt ys k = y at cx HACC
    gi_wp2
    refine dir_round hmx (by kernel_rfl) (fun _ _ h => h) 10 [[], [], [], [(16, 1), (17, 2)], [], [], [(20, 5)], [(21, 6)], [(18, 3), (19, 4), (22, 7)], [(15, 0)], [(23, 8), (24, 9)]] [(15, 0), (16, 1), (17, 2), (18, 3), (19, 4), (20, 5), (21, 6), (22, 7), (23, 8), (24, 9)] [
        (fun v _ => v = .pointer (some ⟨b, a, none⟩)),
        (fun v _ => v = .int .u64 i),
        (fun v _ => v = .int .u64 k),
        (fun v _ => v = .int .u64 (mk (decide (i = k)))),
        (fun v _ => v = .int .u64 x),
        (fun v _ => v = .pointer (some ⟨b, a, none⟩)),
        (fun v _ => v = .pointer (some ⟨b, a, none⟩)),
        (fun v _ => v = .int .u64 y),
        (fun v _ => v = .int .u64 (sel (mk (decide (i = k))) x y)),
        (fun v _ => v = .pointer (some ⟨b, a, none⟩))
      ] (by kernel_rfl) (by kernel_rfl) (by kernel_rfl) (by decide) ⟨dstab_eq, dstab_eq, dstab_eq, dstab_eq, dstab_eq, dstab_eq, dstab_eq, dstab_eq, dstab_eq, dstab_eq, trivial⟩ ?steps ?fin
    case steps =>
      refine ⟨?_, ?_, ?_, ?_, ?_, ?_, ?_, ?_, ?_, ?_, trivial⟩
      · intro vs g w2 hI hF hR K hK
        simp only [Facts, fill, Act.put, z1, z2, z3, z4, z5, Nat.reduceAdd] at hF hR hK ⊢
        go_simp
        exact hK _ () _ hI (Below.refl _ _) rfl
      · intro vs g w2 hI hF hR K hK
        simp only [Facts, fill, Act.put, z1, z2, z3, z4, z5, Nat.reduceAdd] at hF hR hK ⊢
        have k0 := (hI.cell (lt_of_cell d0)).trans d0
        go_simp
        exact hK _ () _ hI (Below.refl _ _) rfl
      · intro vs g w2 hI hF hR K hK
        simp only [Facts, fill, Act.put, z1, z2, z3, z4, z5, Nat.reduceAdd] at hF hR hK ⊢
        go_simp
        exact hK _ () _ hI (Below.refl _ _) rfl
      · intro vs g w2 hI hF hR K hK
        simp only [Facts, fill, Act.put, z1, z2, z3, z4, z5, Nat.reduceAdd] at hF hR hK ⊢
        obtain ⟨r1, r2, -⟩ := hR
        generalize vs 1 = x1, vs 2 = x2 at *
        subst r1 r2
        go_simp
        refine (equal_b i k hi hk1 _ (hwt.below hI)).mono ?_
        rintro e w3 ⟨rfl, hb⟩
        exact hK _ () _ (hI.trans (hb.mono hI.size)) hb rfl
      · intro vs g w2 hI hF hR K hK
        simp only [Facts, fill, Act.put, z1, z2, z3, z4, z5, Nat.reduceAdd] at hF hR hK ⊢
        have k0 := (hI.cell (lt_of_cell d1)).trans d1
        go_simp
        exact hK _ () _ hI (Below.refl _ _) rfl
      · intro vs g w2 hI hF hR K hK
        simp only [Facts, fill, Act.put, z1, z2, z3, z4, z5, Nat.reduceAdd] at hF hR hK ⊢
        go_simp
        exact hK _ () _ hI (Below.refl _ _) rfl
      · intro vs g w2 hI hF hR K hK
        simp only [Facts, fill, Act.put, z1, z2, z3, z4, z5, Nat.reduceAdd] at hF hR hK ⊢
        obtain ⟨r5, -⟩ := hR
        generalize vs 5 = x5 at *
        subst r5
        go_simp
        exact hK _ () _ hI (Below.refl _ _) rfl
      · intro vs g w2 hI hF hR K hK
        simp only [Facts, fill, Act.put, z1, z2, z3, z4, z5, Nat.reduceAdd] at hF hR hK ⊢
        obtain ⟨r6, -⟩ := hR
        generalize vs 6 = x6 at *
        subst r6
        have k0 := (hI.cell (lt_of_cell cx)).trans cx
        go_simp
        exact hK _ () _ hI (Below.refl _ _) rfl
      · intro vs g w2 hI hF hR K hK
        simp only [Facts, fill, Act.put, z1, z2, z3, z4, z5, Nat.reduceAdd] at hF hR hK ⊢
        obtain ⟨r3, r4, r7, -⟩ := hR
        generalize vs 3 = x3, vs 4 = x4, vs 7 = x7 at *
        subst r3 r4 r7
        go_simp
        refine (select_b (mk (decide (i = k))) x y _).mono ?_
        rintro e w3 ⟨rfl, hb⟩
        exact hK _ () _ (hI.trans (hb.mono hI.size)) hb rfl
      · intro vs g w2 hI hF hR K hK
        simp only [Facts, fill, Act.put, z1, z2, z3, z4, z5, Nat.reduceAdd] at hF hR hK ⊢
        obtain ⟨r0, -⟩ := hR
        generalize vs 0 = x0 at *
        subst r0
        go_simp
        exact hK _ () _ hI (Below.refl _ _) rfl
    case fin =>
      intro vs w2 hI hR
      have r8 := hR 8 (by decide)
      have r9 := hR 9 (by decide)
      simp only [fill, Act.put, z1, z2, z3, z4, z5] at r8 r9 ⊢
      clear hR
      generalize vs 8 = x8 at *
      generalize vs 9 = x9 at *
      subst r8 r9
      have hin2 := hin.below hI
      have hrow2 := hrow.keep_ (w' := w2) fun g hg => hI.block g (World.ownsRow.lt hrow g hg).2
      have cx2 := (hI.cell (cell_lt cx)).trans cx
      have fx2 : w2.frozen? ⟨b, a, none⟩ = false := (World.frozen?_of_block (hI.block b (cell_lt cx))).trans fx
      have hm : Moved (Star w V (w.heap.size + 7)) w2 (w2.setCell ⟨b, a, none⟩ (.int .u64 (sel (mk (decide (i = k))) x y))) := moved_setc (.inl ⟨hbV, hbl⟩)
      have hrow3 := (OwnK.set_ hrow2 hlen.out k (sel (mk (decide (i = k))) x y)).1
      rw [← HACC.out] at hrow3
      have hrow4 : OwnK (w2.setCell ⟨b, a, none⟩ (.int .u64 (sel (mk (decide (i = k))) x y))) base 23 .u64 (.slice (some ⟨b, 0, none⟩) n c) (wrR ys i x (k + 1)) := by rw [HX.out, Nat.zero_add]; exact hrow3
      have hsz2 := hI.size
      refine wpOps_step rfl rfl ?_
      go_simp
      exact ⟨(Same2.of_below hI hlt).trans (hm.same2 (by omega) (by omega) (by omega)), hin2.step (fun _ h => h) hm, hrow4, tape_setc (ht.next hI) hbT (by omega) _⟩
  case done =>
    rintro W ⟨hin, hrow, ht⟩ hK
    rw [HR.out] at hrow
    gi_wp2
    refine ⟨by simp, .inl ⟨_, _, rfl, run_takeDeferred hK, ?_⟩⟩
    exact ⟨_, results_none rfl _ _ _, rfl, hrow.keep_ fun g hg => World.putObj_heap_other (by have := HO.out g hg; omega), (tape_put ht (by omega) (by omega) _).out (by omega), (hin.put (by omega) (by simp; omega) _).moved⟩
  case stop =>
    rintro c W h
    exact h.elim
end Go.Proofs.YtknldcogmbbgjaaDoor
