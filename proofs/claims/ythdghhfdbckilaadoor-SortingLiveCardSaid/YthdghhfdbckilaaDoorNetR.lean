/-
  The bitonic network's rounds: each holds each index once. No program is named here.
-/
import Derived.Test.YthdghhfdbckilaaDoorNet
namespace Go.Proofs.YthdghhfdbckilaaDoor
namespace Net

def Disj (c d : Nat × Nat) : Prop := c.1 ≠ d.1 ∧ c.1 ≠ d.2 ∧ c.2 ≠ d.1 ∧ c.2 ≠ d.2
/-- A round: pairs of two indices each, no index twice. -/
def Once (n : Nat) (L : List (Nat × Nat)) : Prop := Within n L ∧ L.Pairwise Disj
theorem fm_all {α : Type} (f : Nat → Option α) : ∀ m, (∀ i, i < m → (f i).isSome = true) → ((List.range m).filterMap f).length = m
  | 0, _ => rfl
  | m + 1, h => by
    obtain ⟨a, ha⟩ := Option.isSome_iff_exists.1 (h m (by omega))
    rw [List.range_succ, List.filterMap_append, List.length_append, fm_all f m fun i hi => h i (by omega)]
    simp [ha]
theorem fm_none {α : Type} (f : Nat → Option α) : ∀ m, (∀ i, i < m → f i = none) → (List.range m).filterMap f = []
  | 0, _ => rfl
  | m + 1, h => by
    rw [List.range_succ, List.filterMap_append, fm_none f m fun i hi => h i (by omega)]
    simp [h m (by omega)]
theorem compL_half (k : Nat) {j : Nat} : ∀ m, (compL k j (2 * j * m)).length = j * m
  | 0 => rfl
  | m + 1 => by
    have hm := compL_half k (j := j) m
    unfold compL at hm ⊢
    rw [show 2 * j * (m + 1) = 2 * j * m + (j + j) by rw [Nat.mul_add]; omega, List.range_add, List.filterMap_append, List.length_append, hm, List.filterMap_map, List.range_add, List.filterMap_append, List.length_append, List.filterMap_map,
      fm_all _ j fun i hi => ?_, fm_none _ j fun i hi => ?_]
    · rw [Nat.mul_add]; simp
    · have := div_high (x := m) (h := j) (i := i) hi
      rw [Nat.mul_comm m (2 * j)] at this
      simp only [Function.comp, cmpAt]
      rw [if_pos (by rw [show 2 * j * m + (j + i) = 2 * j * m + (i + j) by omega]; exact this)]
    · have := div_low (x := m) (h := j) (i := i) hi
      rw [Nat.mul_comm m (2 * j)] at this
      simp only [Function.comp, cmpAt]
      rw [if_neg (by omega)]
      split <;> rfl
theorem cmpAt_some {k j i : Nat} {c : Nat × Nat} (h : cmpAt k j i = some c) : i / j % 2 = 0 ∧ ((c.1 = i + j ∧ c.2 = i) ∨ (c.1 = i ∧ c.2 = i + j)) := by
  unfold cmpAt at h
  split at h
  · cases h
  · rename_i h0
    split at h
    · injection h with h; subst h; exact ⟨by omega, .inl ⟨rfl, rfl⟩⟩
    · injection h with h; subst h; exact ⟨by omega, .inr ⟨rfl, rfl⟩⟩
theorem up_odd {j i : Nat} (hj : 0 < j) (h : i / j % 2 = 0) : (i + j) / j % 2 = 1 := by
  rw [Nat.add_div_right _ hj]; omega
theorem compL_disj {k j n : Nat} (hj : 0 < j) : (compL k j n).Pairwise Disj := by
  unfold compL
  rw [List.pairwise_filterMap]
  refine List.pairwise_lt_range.imp ?_
  intro a b hab c hc d hd
  obtain ⟨ha, hca⟩ := cmpAt_some hc
  obtain ⟨hb, hdb⟩ := cmpAt_some hd
  have ha' := up_odd hj ha
  have hb' := up_odd hj hb
  have e1 : a + j ≠ b := fun e => by rw [e] at ha'; omega
  have e2 : b + j ≠ a := fun e => by omega
  unfold Disj
  rcases hca with ⟨h1, h2⟩ | ⟨h1, h2⟩ <;> rcases hdb with ⟨h3, h4⟩ | ⟨h3, h4⟩ <;> rw [h1, h2, h3, h4] <;> omega
def jc (n k : Nat) : Nat → List (List (Nat × Nat))
  | 0 => []
  | r + 1 => compL k (2 ^ r) n :: jc n k r
def kc (n : Nat) : Nat → List (List (Nat × Nat))
  | 0 => []
  | q + 1 => kc n q ++ jc n (2 ^ (q + 1)) (q + 1)
theorem jc_flat (n k : Nat) : ∀ r, (jc n k r).flatten = jl n k r
  | 0 => rfl
  | r + 1 => by show _ ++ (jc n k r).flatten = _ ++ jl n k r; rw [jc_flat n k r]
theorem kc_flat (n : Nat) : ∀ q, (kc n q).flatten = kl n q
  | 0 => rfl
  | q + 1 => by show (kc n q ++ jc n _ _).flatten = _; rw [List.flatten_append, kc_flat n q, jc_flat]; rfl
theorem jc_len (n k : Nat) : ∀ r, (jc n k r).length = r
  | 0 => rfl
  | r + 1 => by show (jc n k r).length + 1 = _; rw [jc_len n k r]
theorem kc_len (n : Nat) : ∀ q, 2 * (kc n q).length = q * (q + 1)
  | 0 => rfl
  | q + 1 => by
    show 2 * (kc n q ++ jc n _ _).length = _
    rw [List.length_append, Nat.mul_add, kc_len n q, jc_len, show (q + 1) * (q + 1 + 1) = (q + 1) * q + (q + 1) * 2 by rw [← Nat.mul_add], Nat.mul_comm q (q + 1)]; omega
theorem jc_once {N q : Nat} (hq : q ≤ N) : ∀ r, r ≤ q → ∀ L ∈ jc (2 ^ N) (2 ^ q) r, 2 * L.length = 2 ^ N ∧ Once (2 ^ N) L
  | 0, _, L, h => by cases h
  | r + 1, hr, L, h => by
    rcases List.mem_cons.1 h with rfl | h
    · have hj : 0 < 2 ^ r := Nat.pos_of_neZero _
      have e1 := pow_split (r := r) (q := N) (by omega)
      have e2 := pow_split (r := r) (q := q) (by omega)
      refine ⟨?_, ?_, compL_disj hj⟩
      · rw [e1, compL_half]
        rw [Nat.mul_assoc]
      · have := cmp_within (j := 2 ^ r) (y := 2 ^ (q - r - 1)) hj e1
        rwa [← e2] at this
    · exact jc_once hq r (by omega) L h
theorem kc_once {N : Nat} : ∀ q, q ≤ N → ∀ L ∈ kc (2 ^ N) q, 2 * L.length = 2 ^ N ∧ Once (2 ^ N) L
  | 0, _, L, h => by cases h
  | q + 1, hq, L, h => by
    rcases List.mem_append.1 h with h | h
    · exact kc_once q (by omega) L h
    · exact jc_once hq (q + 1) (Nat.le_refl _) L h
/-- The network, round by round. -/
theorem comps_rounds (q : Nat) : ∃ R : List (List (Nat × Nat)), comps q = R.flatten ∧ 2 * R.length = q * (q + 1) ∧ ∀ L ∈ R, 2 * L.length = 2 ^ q ∧ Once (2 ^ q) L :=
  ⟨kc (2 ^ q) q, (kc_flat _ _).symm, kc_len _ _, kc_once q (Nat.le_refl _)⟩
end Net
end Go.Proofs.YthdghhfdbckilaaDoor
