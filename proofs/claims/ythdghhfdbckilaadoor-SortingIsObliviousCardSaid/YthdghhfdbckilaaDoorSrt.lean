/-
  Layer 13: records, their ranks, sorted lists. No program is named here.
-/
import Derived.Test.YthdghhfdbckilaaDoorNet
namespace Go.Proofs.YthdghhfdbckilaaDoor
open Go.RowKit
set_option maxRecDepth 100000
set_option linter.unusedVariables false
set_option linter.unusedSimpArgs false

/-- A record. -/
structure Rc where
  live : Int
  id : Int
  deriving DecidableEq
def rcC (r : Rc) : List Value := [.int .u64 r.live, .int .u64 r.id]
theorem rcC_len (r : Rc) : (rcC r).length = 2 := rfl
def cleanR (r : Rc) : Rc := if r.live % 2 = 1 then ⟨1, r.id⟩ else ⟨0, 0⟩
/-- The place of a clean record in the order. -/
def rankR (r : Rc) : Int := if r.live % 2 = 1 then r.id else 18446744073709551616
def unrank (n : Int) : Rc := if n = 18446744073709551616 then ⟨0, 0⟩ else ⟨1, n⟩
theorem unrank_rank {r : Rc} (h : U r.id) : unrank (rankR r) = cleanR r := by
  unfold unrank rankR cleanR
  by_cases h1 : r.live % 2 = 1
  · rw [if_pos h1, if_pos h1, if_neg (by unfold U at h; omega)]
  · rw [if_neg h1, if_neg h1, if_pos rfl]
theorem rank_unrank (n : Int) : rankR (unrank n) = n := by
  unfold unrank rankR
  split
  · rename_i h; simp [h]
  · simp
theorem rank_clean (r : Rc) : rankR (cleanR r) = rankR r := by
  unfold cleanR rankR
  by_cases h1 : r.live % 2 = 1
  · rw [if_pos h1, if_pos h1]; simp
  · rw [if_neg h1, if_neg h1]; simp
theorem rank_le {r : Rc} (h : U r.id) : 0 ≤ rankR r ∧ rankR r ≤ 18446744073709551616 := by
  unfold rankR
  unfold U at h
  split <;> omega
theorem unrank_live (n : Int) : (unrank n).live % 2 = (unrank n).live := by unfold unrank; split <;> rfl
theorem unrank_inj {a b : Int} (h : unrank a = unrank b) : a = b := by rw [← rank_unrank a, h, rank_unrank]
def lessR (x y : Rc) : Bool := decide (rankR x < rankR y)
/-- Numbers in ascending order. -/
def sortI (l : List Int) : List Int := l.mergeSort fun a b => decide (a ≤ b)
theorem sortI_perm (l : List Int) : (sortI l).Perm l := List.mergeSort_perm _ _
theorem sortI_asc (l : List Int) : (sortI l).Pairwise (· ≤ ·) := by
  have := List.pairwise_mergeSort (le := fun a b : Int => decide (a ≤ b)) (fun a b c h1 h2 => by simp at *; omega) (fun a b => by simp; omega) l
  exact this.imp fun h => by simpa using h
theorem sortI_eq {a l : List Int} (ha : a.Pairwise (· ≤ ·)) (h : a.Perm l) : a = sortI l := Net.sorted_eq ha (sortI_asc l) (h.trans (sortI_perm l).symm)
theorem sortI_congr {a b : List Int} (h : a.Perm b) : sortI a = sortI b := sortI_eq (sortI_asc a) ((sortI_perm a).trans h)
theorem sortI_len (l : List Int) : (sortI l).length = l.length := (sortI_perm l).length_eq
theorem sortI_idem (l : List Int) : sortI (sortI l) = sortI l := sortI_congr (sortI_perm l)
/-- Greatest elements go to the end. -/
theorem sortI_pad {l : List Int} {t : Int} (n : Nat) (h : ∀ x ∈ l, x ≤ t) : sortI (l ++ List.replicate n t) = sortI l ++ List.replicate n t := by
  refine (sortI_eq ?_ ((sortI_perm l).append_right _)).symm
  rw [List.pairwise_append]
  refine ⟨sortI_asc l, ?_, fun a ha b hb => ?_⟩
  · rw [List.pairwise_replicate]
    exact .inr (Int.le_refl _)
  · rw [(List.mem_replicate.1 hb).2]
    exact h a ((sortI_perm l).mem_iff.1 ha)
def ranks (l : List Rc) : List Int := l.map rankR
def sortR (l : List Rc) : List Rc := (sortI (ranks l)).map unrank
theorem sortR_len (l : List Rc) : (sortR l).length = l.length := by unfold sortR ranks; rw [List.length_map, sortI_len, List.length_map]
theorem ranks_sortR (l : List Rc) : ranks (sortR l) = sortI (ranks l) := by
  unfold sortR ranks
  rw [List.map_map]
  conv => rhs; rw [← List.map_id (sortI (List.map rankR l))]
  exact List.map_congr_left fun x _ => rank_unrank x
theorem sortR_idem (l : List Rc) : sortR (sortR l) = sortR l := by
  show (sortI (ranks (sortR l))).map unrank = _
  rw [ranks_sortR, sortI_idem]; rfl
theorem sortR_congr {l m : List Rc} (h : l.Perm m) : sortR l = sortR m := by
  show (sortI (ranks l)).map unrank = (sortI (ranks m)).map unrank
  have := sortI_congr (h.map rankR)
  unfold ranks
  rw [this]
/-- Inserting. -/
theorem sort_insert {l : List Int} {x : Int} {k : Nat} (hk : k ≤ l.length) (h1 : ∀ y ∈ (sortI l).take k, y ≤ x) (h2 : ∀ y ∈ (sortI l).drop k, x ≤ y) : sortI (l ++ [x]) = (sortI l).take k ++ x :: (sortI l).drop k := by
  refine (sortI_eq ?_ ?_).symm
  · have hs := sortI_asc l
    rw [← List.take_append_drop k (sortI l), List.pairwise_append] at hs
    rw [List.pairwise_append]
    refine ⟨hs.1, List.pairwise_cons.2 ⟨h2, hs.2.1⟩, fun a ha b hb => ?_⟩
    rcases List.mem_cons.1 hb with rfl | hb
    · exact h1 a ha
    · exact hs.2.2 a ha b hb
  · refine List.perm_middle.trans ?_
    rw [List.take_append_drop]
    exact ((List.Perm.cons x (sortI_perm l))).trans (List.perm_append_comm (l₁ := [x]))
/-- How many are live. -/
def liveN (l : List Rc) : Nat := l.countP fun r => r.live % 2 == 1
theorem liveN_le (l : List Rc) : liveN l ≤ l.length := List.countP_le_length
theorem live_rank {r : Rc} (h : U r.id) : (r.live % 2 == 1) = decide (rankR r < 18446744073709551616) := by
  unfold rankR
  unfold U at h
  by_cases h1 : r.live % 2 = 1
  · rw [if_pos h1, h1]; simp; omega
  · rw [if_neg h1]; simp [h1]
theorem liveN_ranks {l : List Rc} (h : ∀ r ∈ l, U r.id) : liveN l = (ranks l).countP fun n => decide (n < 18446744073709551616) := by
  unfold liveN ranks
  rw [List.countP_map]
  exact List.countP_congr fun r hr => by simp only [Function.comp, live_rank (h r hr)]
/-- Of numbers in ascending order those below a bound come first. -/
theorem asc_count {l : List Int} (t : Int) (h : l.Pairwise (· ≤ ·)) : ∀ (i : Nat) (hi : i < l.length), (l[i] < t ↔ i < l.countP fun n => decide (n < t)) := by
  induction l with
  | nil => intro i hi; simp at hi
  | cons x l ih =>
    intro i hi
    rw [List.pairwise_cons] at h
    rw [List.countP_cons]
    by_cases hx : x < t
    · simp only [hx, decide_true, if_true]
      cases i with
      | zero => simp [hx]
      | succ i => rw [List.getElem_cons_succ, ih h.2 i (by simpa using hi)]; omega
    · have h0 : (l.countP fun n => decide (n < t)) = 0 := List.countP_eq_zero.2 fun y hy => by have := h.1 y hy; simp; omega
      rw [h0]
      simp only [hx, decide_false]
      constructor
      · intro h2
        cases i with
        | zero => exact absurd h2 hx
        | succ i => have := h.1 _ (List.getElem_mem (l := l) (n := i) (by simpa using hi)); rw [List.getElem_cons_succ] at h2; omega
      · intro h2; simp at h2
/-- Each place of the sorted list. -/
theorem sortR_at {l : List Rc} (h : ∀ r ∈ l, U r.id) {i : Nat} (hi : i < (sortR l).length) : if i < liveN l then (sortR l)[i].live = 1 else (sortR l)[i] = ⟨0, 0⟩ := by
  have hi2 : i < (sortI (ranks l)).length := by unfold sortR at hi; simpa using hi
  have h1 : (sortR l)[i] = unrank ((sortI (ranks l))[i]) := List.getElem_map _
  have h2 := asc_count 18446744073709551616 (sortI_asc (ranks l)) i hi2
  have h3 : (sortI (ranks l)).countP (fun n => decide (n < 18446744073709551616)) = liveN l := by rw [liveN_ranks h]; exact (sortI_perm _).countP_eq _
  rw [h3] at h2
  have h4 : (sortI (ranks l))[i] ≤ 18446744073709551616 := by
    have hm := (sortI_perm (ranks l)).mem_iff.1 (List.getElem_mem hi2)
    obtain ⟨r, hr, e⟩ := List.mem_map.1 hm
    rw [← e]; exact (rank_le (h r hr)).2
  rw [h1]
  generalize (sortI (ranks l))[i] = n at *
  unfold unrank
  by_cases hlt : i < liveN l
  · rw [if_pos hlt, if_neg (by have := h2.2 hlt; omega)]
  · rw [if_neg hlt, if_pos (by rcases Int.lt_or_le n 18446744073709551616 with h5 | h5; exact absurd (h2.1 h5) hlt; omega)]
/-- Identifiers ascend among the live. -/
theorem sortR_ids {l : List Rc} (h : ∀ r ∈ l, U r.id) {i : Nat} (hi : i + 1 < (sortR l).length) (hl : i + 1 < liveN l) : (sortR l)[i].id ≤ (sortR l)[i + 1].id := by
  have hi2 : i + 1 < (sortI (ranks l)).length := by unfold sortR at hi; simpa using hi
  have h1 : (sortR l)[i] = unrank ((sortI (ranks l))[i]) := List.getElem_map _
  have h1' : (sortR l)[i + 1] = unrank ((sortI (ranks l))[i + 1]) := List.getElem_map _
  have h3 : (sortI (ranks l)).countP (fun n => decide (n < 18446744073709551616)) = liveN l := by rw [liveN_ranks h]; exact (sortI_perm _).countP_eq _
  have h2 := (asc_count 18446744073709551616 (sortI_asc (ranks l)) i (by omega)).2 (by rw [h3]; omega)
  have h2' := (asc_count 18446744073709551616 (sortI_asc (ranks l)) (i + 1) hi2).2 (by rw [h3]; omega)
  have h5 := List.pairwise_iff_getElem.1 (sortI_asc (ranks l)) i (i + 1) (by omega) hi2 (by omega)
  rw [h1, h1']
  generalize (sortI (ranks l))[i] = n at *
  generalize (sortI (ranks l))[i + 1] = m at *
  unfold unrank
  rw [if_neg (by omega), if_neg (by omega)]
  exact h5
end Go.Proofs.YthdghhfdbckilaaDoor
