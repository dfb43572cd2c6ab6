/-
  append of zero bytes onto a row of one's own.
-/
import Derived.Test.YtokabljeekokmaaDoorBy
import Derived.Laws.IdiomCopy
import Derived.Lib.AppendZerosOnto
import Derived.Lib.AppendZeros
namespace Go.Proofs.YtokabljeekokmaaDoor
open Go.RowKit Go.Lib
set_option maxRecDepth 100000
set_option linter.unusedVariables false
set_option linter.unusedSimpArgs false

def overZ {α : Type} : List α → Nat → List α → List α
  | l, _, [] => l
  | l, o, v :: r => overZ (l.set o v) (o + 1) r
theorem overZ_tail {α : Type} : ∀ (cs xs l : List α), l.take xs.length = xs → l.length = xs.length + cs.length → overZ l xs.length cs = xs ++ cs
  | [], xs, l, h1, h2 => by
    show l = xs ++ []
    have h3 : l.take xs.length = l := List.take_of_length_le (by simp at h2; omega)
    rw [List.append_nil, ← h1]
    exact h3.symm
  | c :: cs, xs, l, h1, h2 => by
    have h3 := overZ_tail cs (xs ++ [c]) (l.set xs.length c) (by
      have hlt : xs.length < (l.set xs.length c).length := by simp at h2 ⊢; omega
      rw [List.length_append, List.length_singleton, List.take_succ_eq_append_getElem hlt, List.getElem_set_self]
      congr 1
      rw [List.take_set_of_le (Nat.le_refl _)]; exact h1) (by simp at h2 ⊢; omega)
    show overZ (l.set xs.length c) (xs.length + 1) cs = _
    rw [List.length_append, List.length_singleton] at h3
    rw [h3, List.append_assoc]; rfl
theorem own_overZ {base g n c k : Nat} {t : TypeId} : ∀ (cs : List Value) (o : Nat) (w : World) (xs : List Value), w.ownsRow base t k (.slice (some ⟨g, 0, none⟩) n c) n xs → (w.setCells g o cs).ownsRow base t k (.slice (some ⟨g, 0, none⟩) n c) n (overZ xs o cs)
  | [], _, _, _, h => h
  | v :: r, o, w, xs, h => own_overZ r (o + 1) _ _ (h.stored o v).1
theorem below_setCellsZ {B g : Nat} {w0 : World} (hg : B ≤ g) : ∀ (cs : List Value) (o : Nat) (w : World), Below B w0 w → Below B w0 (w.setCells g o cs)
  | [], _, _, h => h
  | v :: r, o, w, h => below_setCellsZ hg r (o + 1) _ (Below.setCell h (p := ⟨g, o, none⟩) hg v)
theorem own_moreZ {w : World} {base g n c k : Nat} {t : TypeId} {xs : List Value} (h : w.ownsRow base t k (.slice (some ⟨g, 0, none⟩) n c) n xs) (m : Nat) (h1 : n ≤ m) (h2 : m ≤ c) :
    ∃ ys, ys.length = m * k ∧ ys.take (n * k) = xs ∧ w.ownsRow base t k (.slice (some ⟨g, 0, none⟩) m c) m ys := by
  obtain ⟨hl, h⟩ := h
  rcases h with ⟨h0, _⟩ | ⟨g', cap, cur, h0, hb, hg, hn, hc, hs, ht⟩
  · cases h0
  · injection h0 with e1 _ e2
    injection e1 with e1
    injection e1 with e1
    subst e1 e2
    have hle : m * k ≤ c * k := Nat.mul_le_mul_right _ h2
    refine ⟨cur.toList.take (m * k), by simp; omega, ?_, by simp; omega, .inr ⟨g, c, cur, rfl, hb, hg, h2, hc, hs, rfl⟩⟩
    rw [List.take_take, Nat.min_eq_left (Nat.mul_le_mul_right _ h1), ht]
theorem zeros_eq (k : Nat) : (Builtin.zeroCells (Value.int .u8 0).cells k).toList = List.replicate k (Value.int .u8 0) := by
  apply List.ext_getElem
  · simp [Builtin.zeroCells, Value.cells]
  · intro i h1 h2
    simp [Builtin.zeroCells, Value.cells, Nat.mod_one]
theorem run_app_zeros {w : World} {base g n c k : Nat} {ys : List Int} (hown : OwnK w base 5 .u8 (.slice (some ⟨g, 0, none⟩) n c) ys) (hn : n = ys.length) (hle : n + k ≤ 1000000) (hbase : base ≤ w.heap.size) (ty : TypeId) :
    ∃ v' w', (Builtin.append_ #[22, 3] ty #[.slice (some ⟨g, 0, none⟩) n c, .int .i64 k]).run Tryd.prog w = .ok v' w' ∧ OwnK w' base 5 .u8 v' (ys ++ List.replicate k 0) ∧ Below base w w' := by
  obtain ⟨i0, hi, hz0, hz1, hz2⟩ := info_parts infoB
  have hw : IntKind.i64.wrap (k : Int) = k := by rw [IntKind.wrap_i64]; omega
  have hneg : ¬ ((k : Int) < 0) := by omega
  have h48i : ¬ (281474976710656 < (k : Int) * (i0.bytes : Int)) := by rw [hz2]; omega
  have hg := (World.ownsRow.lt hown g rfl)
  rw [hn] at hle
  have hlc : ys.length ≤ c := by
    obtain ⟨_, h⟩ := hown
    rcases h with ⟨h0, _⟩ | ⟨g', cap, cur, h0, _, _, hn2, _⟩
    · cases h0
    · injection h0 with _ _ e; omega
  have h48k : ¬ (281474976710656 < (k : Int)) := by omega
  subst hn
  by_cases hroom : ys.length + k ≤ c
  · obtain ⟨zs, hzl, hzt, hown2⟩ := own_moreZ hown (ys.length + k) (by omega) hroom
    rw [Nat.mul_one] at hzl hzt
    have hcell : ∀ j, j < ys.length + k → (w.cell? ⟨g, j, none⟩).isSome = true := fun j hj => by rw [World.ownsRow.cellAt hown2 j (by omega), List.getElem?_eq_getElem (by omega)]; rfl
    have hst := run_storeCells_cells (P := Tryd.prog) g ys.length (List.replicate k (Value.int .u8 0)) 0 w (fun j hj => hcell _ (by simp at hj; omega)) (fun j hj => World.ownsRow.frozenAt hown2 _) (fun v hv => by rw [(List.mem_replicate.1 hv).2]; rfl)
    refine ⟨.slice (some ⟨g, 0, none⟩) (ys.length + k) c, w.setCells g ys.length (List.replicate k (.int .u8 0)), ?_, ?_, below_setCellsZ hg.1 _ _ _ (Below.refl _ _)⟩
    · by_cases hk0 : k = 0
      · subst hk0
        have hw0 : IntKind.i64.wrap 0 = 0 := rfl
        have hroom0 : ys.length ≤ c := hroom
        simp [hw0, hroom0, Builtin.append_, run_underlying Tryd.underlying22, run_underlying Tryd.underlying3, sizeOf, typeInfo, zeroValue, hi, hz0, hz1, hz2, asInt, asIntOf, hw, hroom, World.setCells, storeCells]
      · have hkk : ¬ (k * 1 = 0) := by omega
        simp [Builtin.append_, run_underlying Tryd.underlying22, run_underlying Tryd.underlying3, sizeOf, typeInfo, zeroValue, hi, hz0, hz1, hz2, asInt, asIntOf, hw, hneg, hroom, hk0, h48k, zeros_eq, Addr.add_lit]
        rw [Nat.add_zero] at hst
        simp [hst]
    · have h1 := own_overZ (List.replicate k (.int .u8 0)) ys.length w zs hown2
      have h2 := overZ_tail (List.replicate k (Value.int .u8 0)) (ys.map (Value.int .u8)) zs (by rw [List.length_map]; exact hzt) (by simp; omega)
      rw [List.length_map] at h2
      rw [h2] at h1
      unfold OwnK
      simpa using h1
  · have hk0 : 0 < k := by omega
    have hcells : ∀ j u, (ys.map (Value.int .u8))[j]? = some u → w.drew.cell? ((⟨g, 0, none⟩ : Addr).add j) = some u := fun j u hj => by
      have h1 := World.ownsRow.cells hown rfl j u hj
      exact h1
    have hfc : (Builtin.firstCells i0.size ys.length (.slice (some ⟨g, 0, none⟩) ys.length c)).run Tryd.prog w.drew = .ok (ys.map (Value.int .u8)).toArray w.drew := by
      have h1 := run_loadCells_list (P := Tryd.prog) w.drew ⟨g, 0, none⟩ (ys.map (Value.int .u8)) hcells
      rw [List.length_map] at h1
      simp [Builtin.firstCells, hz1, h1]
    have hfit : Builtin.nextslicecap (ys.length + k) c * i0.bytes ≤ 281474976710656 := by
      exact growslice_fits (by omega) (by rw [hz2]; omega)
    have hr := run_append_grow_zeros (P := Tryd.prog) w 22 3 ty 5 i0 (.int .u8 0) .i64 .i64 Tryd.underlying22 Tryd.underlying3 hi hz0 (some ⟨g, 0, none⟩) ys.length c (ys.map (Value.int .u8)) hfc k hk0 (by rw [hz1]; decide) (by omega) (by omega) (by rw [hz2]; omega) hfit
    refine ⟨_, _, hr, ?_, ((Below.refl _ _).drew.alloc hbase _)⟩
    have hge := grownCap_ge w (ys.length + k) c 5
    unfold OwnK
    refine ⟨by simp, .inr ⟨w.heap.size, grownCap w (ys.length + k) c 5, _, by simp, hbase, heap_alloc_new w.drew _, by simpa using hge, grownCap_le_maxLen _ _ _ _ (by unfold maxLen; omega), ?_, ?_⟩⟩
    · rw [Array.size_append, Array.size_append, size_zeroCells, size_zeroCells, show (Value.int IntKind.u8 0).cells.size = 1 from rfl]
      simp
      omega
    · rw [Array.toList_append, Array.toList_append, zeros_eq]
      simp
      rw [← List.append_assoc, List.take_left' (by simp)]
end Go.Proofs.YtokabljeekokmaaDoor
