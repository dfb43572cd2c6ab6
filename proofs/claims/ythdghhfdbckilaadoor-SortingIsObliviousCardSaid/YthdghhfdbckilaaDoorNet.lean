/-
  Bitonic networks: the network sorts (on truth values, then on numbers, then on lists), and a round is what its comparators do one behind the other.
-/
import Derived.Test.YthdghhfdbckilaaDoorBase
namespace Go.Proofs.YthdghhfdbckilaaDoor
open Go.RowKit
set_option maxRecDepth 100000
set_option linter.unusedVariables false
set_option linter.unusedSimpArgs false
namespace Net

/-- A round of the network, on truth values. -/
def rb (k j : Nat) (b : Nat → Bool) (i : Nat) : Bool :=
  let p := if i / j % 2 = 0 then i + j else i - j
  if (i / j % 2 = 0) = (i / k % 2 = 0) then b i && b p else b i || b p
/-- On the m places from o on, b is an interval or the complement of one. -/
def Bit (b : Nat → Bool) (o m : Nat) : Prop := ∃ (f : Bool) (a c : Nat), ∀ i, i < m → b (o + i) = xor f (decide (a ≤ i) && decide (i < c))
/-- Ascending. -/
def Asc (b : Nat → Bool) (o m : Nat) : Prop := ∀ i j, i ≤ j → j < m → b (o + i) = true → b (o + j) = true
def Desc (b : Nat → Bool) (o m : Nat) : Prop := ∀ i j, i ≤ j → j < m → b (o + j) = true → b (o + i) = true
def Ord (up : Bool) (b : Nat → Bool) (o m : Nat) : Prop := if up then Asc b o m else Desc b o m
theorem not_bit {b : Nat → Bool} {o m : Nat} (h : Bit b o m) : Bit (fun i => !b i) o m := by
  obtain ⟨f, a, c, h⟩ := h
  refine ⟨!f, a, c, fun i hi => ?_⟩
  simp [h i hi]
theorem ord_not {up : Bool} {b : Nat → Bool} {o m : Nat} (h : Ord up (fun i => !b i) o m) : Ord (!up) b o m := by
  cases up
  · intro i j hij hj hb
    have := h i j hij hj
    simp at this
    cases hc : b (o + j)
    · simp [this hc] at hb
    · rfl
  · intro i j hij hj hb
    have := h i j hij hj
    simp at this
    cases hc : b (o + i)
    · simp [this hc] at hb
    · rfl
theorem rb_not (k j : Nat) (b : Nat → Bool) (i : Nat) (d : Bool) (hd : (i / k % 2 = 0) = (d = true)) :
    rb k j b i = if (i / j % 2 = 0) = (d = true) then b i && b (if i / j % 2 = 0 then i + j else i - j) else b i || b (if i / j % 2 = 0 then i + j else i - j) := by
  unfold rb; simp only [hd]
/-- Half-cleaning an interval. -/
theorem half_bit {b c : Nat → Bool} {o h : Nat} (hb : Bit b o (2 * h)) (hlo : ∀ i, i < h → c (o + i) = (b (o + i) && b (o + (i + h)))) (hhi : ∀ i, i < h → c (o + (i + h)) = (b (o + i) || b (o + (i + h)))) :
    Bit c o h ∧ Bit c (o + h) h ∧ ((∀ i, i < h → c (o + i) = false) ∨ (∀ i, i < h → c (o + (i + h)) = true)) := by
  obtain ⟨f, a, e, hb⟩ := hb
  have h1 : ∀ i, i < h → b (o + i) = xor f (decide (a ≤ i) && decide (i < e)) := fun i hi => hb i (by omega)
  have h2 : ∀ i, i < h → b (o + (i + h)) = xor f (decide (a ≤ i + h) && decide (i + h < e)) := fun i hi => hb (i + h) (by omega)
  have key : ∀ i, i < h → (decide (a ≤ i) && decide (i < e) && (decide (a ≤ i + h) && decide (i + h < e))) = (decide (a ≤ i) && decide (i < e - h)) := fun i hi => by
    rw [Bool.eq_iff_iff]; simp; omega
  have key2 : (∀ i, i < h → (decide (a ≤ i) && decide (i < e) || (decide (a ≤ i + h) && decide (i + h < e))) = true) ∨
      ((∀ i, i < h → (decide (a ≤ i) && decide (i < e - h)) = false) ∧ ∃ (g : Bool) (a' e' : Nat), ∀ i, i < h → (decide (a ≤ i) && decide (i < e) || (decide (a ≤ i + h) && decide (i + h < e))) = xor g (decide (a' ≤ i) && decide (i < e'))) := by
    by_cases c1 : e ≤ h
    · right; refine ⟨fun i hi => by rw [Bool.eq_iff_iff]; simp; omega, false, a, e, fun i hi => by rw [Bool.eq_iff_iff]; simp; omega⟩
    by_cases c2 : h ≤ a
    · right
      by_cases c4 : 2 * h < e
      · refine ⟨fun i hi => by rw [Bool.eq_iff_iff]; simp; omega, false, a - h, h, fun i hi => by rw [Bool.eq_iff_iff]; simp; omega⟩
      · refine ⟨fun i hi => by rw [Bool.eq_iff_iff]; simp; omega, false, a - h, e - h, fun i hi => by rw [Bool.eq_iff_iff]; simp; omega⟩
    by_cases c3 : a ≤ e - h
    · left; intro i hi; simp; omega
    · right; refine ⟨fun i hi => by rw [Bool.eq_iff_iff]; simp; omega, true, e - h, a, fun i hi => by rw [Bool.eq_iff_iff]; simp; omega⟩
  cases f with
  | false =>
    have L : ∀ i, i < h → c (o + i) = (decide (a ≤ i) && decide (i < e - h)) := fun i hi => by rw [hlo i hi, h1 i hi, h2 i hi, ← key i hi]; simp
    have H : ∀ i, i < h → c (o + (i + h)) = (decide (a ≤ i) && decide (i < e) || (decide (a ≤ i + h) && decide (i + h < e))) := fun i hi => by rw [hhi i hi, h1 i hi, h2 i hi]; simp
    refine ⟨⟨false, a, e - h, fun i hi => by rw [L i hi]; simp⟩, ?_, ?_⟩
    · rcases key2 with k | ⟨_, g, a', e', k⟩
      · exact ⟨true, 0, 0, fun i hi => by rw [show o + h + i = o + (i + h) by omega, H i hi, k i hi]; simp⟩
      · exact ⟨g, a', e', fun i hi => by rw [show o + h + i = o + (i + h) by omega, H i hi, k i hi]⟩
    · rcases key2 with k | ⟨k, _⟩
      · exact .inr fun i hi => by rw [H i hi, k i hi]
      · exact .inl fun i hi => by rw [L i hi, k i hi]
  | true =>
    have dm : ∀ p q : Bool, (xor true p && xor true q) = !(p || q) := by decide
    have dm2 : ∀ p q : Bool, (xor true p || xor true q) = !(p && q) := by decide
    have L : ∀ i, i < h → c (o + i) = !(decide (a ≤ i) && decide (i < e) || (decide (a ≤ i + h) && decide (i + h < e))) := fun i hi => by rw [hlo i hi, h1 i hi, h2 i hi, dm]
    have H : ∀ i, i < h → c (o + (i + h)) = !(decide (a ≤ i) && decide (i < e - h)) := fun i hi => by rw [hhi i hi, h1 i hi, h2 i hi, dm2, key i hi]
    refine ⟨?_, ⟨true, a, e - h, fun i hi => by rw [show o + h + i = o + (i + h) by omega, H i hi]; simp⟩, ?_⟩
    · rcases key2 with k | ⟨_, g, a', e', k⟩
      · exact ⟨false, 0, 0, fun i hi => by rw [L i hi, k i hi]; simp⟩
      · exact ⟨!g, a', e', fun i hi => by rw [L i hi, k i hi]; cases g <;> simp⟩
    · rcases key2 with k | ⟨k, _⟩
      · exact .inl fun i hi => by rw [L i hi, k i hi]; rfl
      · exact .inr fun i hi => by rw [H i hi, k i hi]; rfl
/-- The rounds with j = 2^(r-1), .., 1. -/
def mrg (k : Nat) : Nat → (Nat → Bool) → Nat → Bool
  | 0, b => b
  | r + 1, b => mrg k r (rb k (2 ^ r) b)
/-- The whole network of 2^q. -/
def srt : Nat → (Nat → Bool) → Nat → Bool
  | 0, b => b
  | q + 1, b => mrg (2 ^ (q + 1)) (q + 1) (srt q b)
theorem div_low {x h i : Nat} (hi : i < h) : (x * (2 * h) + i) / h % 2 = 0 := by
  have : (x * (2 * h) + i) / h = 2 * x := by
    rw [show x * (2 * h) + i = i + h * (2 * x) by rw [show x * (2 * h) = h * (2 * x) by rw [Nat.mul_comm, Nat.mul_right_comm, Nat.mul_comm h, Nat.mul_assoc]]; omega]
    rw [Nat.add_mul_div_left _ _ (by omega), Nat.div_eq_of_lt hi, Nat.zero_add]
  omega
theorem div_high {x h i : Nat} (hi : i < h) : (x * (2 * h) + (i + h)) / h % 2 = 1 := by
  have : (x * (2 * h) + (i + h)) / h = 2 * x + 1 := by
    rw [show x * (2 * h) + (i + h) = i + h * (2 * x + 1) by rw [Nat.mul_add, show x * (2 * h) = h * (2 * x) by rw [Nat.mul_comm, Nat.mul_right_comm, Nat.mul_comm h, Nat.mul_assoc]]; omega]
    rw [Nat.add_mul_div_left _ _ (by omega), Nat.div_eq_of_lt hi, Nat.zero_add]
  omega
theorem rb_low {k h x i : Nat} {b : Nat → Bool} (hi : i < h) : rb k h b (x * (2 * h) + i) = if (x * (2 * h) + i) / k % 2 = 0 then b (x * (2 * h) + i) && b (x * (2 * h) + (i + h)) else b (x * (2 * h) + i) || b (x * (2 * h) + (i + h)) := by
  unfold rb
  rw [div_low hi]
  simp only [if_true, eq_self, Nat.add_assoc]
  by_cases hk : (x * (2 * h) + i) / k % 2 = 0 <;> simp [hk]
theorem rb_high {k h x i : Nat} {b : Nat → Bool} (hi : i < h) : rb k h b (x * (2 * h) + (i + h)) = if (x * (2 * h) + (i + h)) / k % 2 = 0 then b (x * (2 * h) + (i + h)) || b (x * (2 * h) + i) else b (x * (2 * h) + (i + h)) && b (x * (2 * h) + i) := by
  unfold rb
  rw [div_high hi]
  have : x * (2 * h) + (i + h) - h = x * (2 * h) + i := by omega
  simp only [this, Nat.one_ne_zero, if_false]
  by_cases hk : (x * (2 * h) + (i + h)) / k % 2 = 0 <;> simp [hk]
theorem mrg_const (k : Nat) : ∀ (r : Nat) (b : Nat → Bool) (x : Nat) (v : Bool), (∀ i, i < 2 ^ r → b (x * 2 ^ r + i) = v) → ∀ i, i < 2 ^ r → mrg k r b (x * 2 ^ r + i) = v
  | 0, b, x, v, h, i, hi => h i hi
  | r + 1, b, x, v, h, i, hi => by
    have e2 : 2 ^ (r + 1) = 2 * 2 ^ r := by rw [Nat.pow_succ, Nat.mul_comm]
    rw [e2] at h hi ⊢
    have hv : ∀ p : Bool, (p && p) = p := by decide
    have hv2 : ∀ p : Bool, (p || p) = p := by decide
    have hl : ∀ i, i < 2 ^ r → rb k (2 ^ r) b (x * (2 * 2 ^ r) + i) = v := fun i hi => by
      rw [rb_low hi, h i (by omega), h (i + 2 ^ r) (by omega)]; split <;> simp
    have hh : ∀ i, i < 2 ^ r → rb k (2 ^ r) b (x * (2 * 2 ^ r) + (i + 2 ^ r)) = v := fun i hi => by
      rw [rb_high hi, h i (by omega), h (i + 2 ^ r) (by omega)]; split <;> simp
    show mrg k r (rb k (2 ^ r) b) _ = v
    by_cases hc : i < 2 ^ r
    · have := mrg_const k r (rb k (2 ^ r) b) (2 * x) v (fun i hi => by rw [show 2 * x * 2 ^ r = x * (2 * 2 ^ r) by rw [Nat.mul_comm 2 x, Nat.mul_assoc]]; exact hl i hi) i hc
      rwa [show 2 * x * 2 ^ r = x * (2 * 2 ^ r) by rw [Nat.mul_comm 2 x, Nat.mul_assoc]] at this
    · have e3 : (2 * x + 1) * 2 ^ r = x * (2 * 2 ^ r) + 2 ^ r := by rw [Nat.add_mul, Nat.mul_comm 2 x, Nat.mul_assoc]; omega
      have := mrg_const k r (rb k (2 ^ r) b) (2 * x + 1) v (fun i hi => by rw [e3, show x * (2 * 2 ^ r) + 2 ^ r + i = x * (2 * 2 ^ r) + (i + 2 ^ r) by omega]; exact hh i hi) (i - 2 ^ r) (by omega)
      rwa [e3, show x * (2 * 2 ^ r) + 2 ^ r + (i - 2 ^ r) = x * (2 * 2 ^ r) + i by omega] at this
/-- Merging sorts an interval. -/
theorem merge_sorts (k : Nat) (d : Bool) : ∀ (r : Nat) (b : Nat → Bool) (x : Nat), (∀ i, i < 2 ^ r → ((x * 2 ^ r + i) / k % 2 = 0 ↔ d = true)) → Bit b (x * 2 ^ r) (2 ^ r) → Ord d (mrg k r b) (x * 2 ^ r) (2 ^ r)
  | 0, b, x, hd, hb => by
    cases d <;> intro i j hij hj h <;> simp at hj <;> subst hj <;> simp at hij <;> subst hij <;> exact h
  | r + 1, b, x, hd, hb => by
    have e2 : 2 ^ (r + 1) = 2 * 2 ^ r := by rw [Nat.pow_succ, Nat.mul_comm]
    rw [e2] at hd hb ⊢
    have e1 : 2 * x * 2 ^ r = x * (2 * 2 ^ r) := by rw [Nat.mul_comm 2 x, Nat.mul_assoc]
    have e3 : (2 * x + 1) * 2 ^ r = x * (2 * 2 ^ r) + 2 ^ r := by rw [Nat.add_mul, Nat.mul_comm 2 x, Nat.mul_assoc]; omega
    have hd1 : ∀ i, i < 2 ^ r → ((2 * x * 2 ^ r + i) / k % 2 = 0 ↔ d = true) := fun i hi => by rw [e1]; exact hd i (by omega)
    have hd2 : ∀ i, i < 2 ^ r → (((2 * x + 1) * 2 ^ r + i) / k % 2 = 0 ↔ d = true) := fun i hi => by rw [e3, Nat.add_assoc]; exact hd (2 ^ r + i) (by omega)
    show Ord d (mrg k r (rb k (2 ^ r) b)) _ _
    generalize hcd : rb k (2 ^ r) b = c
    have ih1 := merge_sorts k d r c (2 * x) hd1
    have ih2 := merge_sorts k d r c (2 * x + 1) hd2
    have kc1 := mrg_const k r c (2 * x)
    have kc2 := mrg_const k r c (2 * x + 1)
    rw [e1] at ih1 kc1
    rw [e3] at ih2 kc2
    have join : ∀ (up : Bool) (e : Nat → Bool) (o h : Nat), Ord up e o h → Ord up e (o + h) h → ((∀ i, i < h → e (o + i) = !up) ∨ (∀ i, i < h → e (o + (i + h)) = up)) → Ord up e o (2 * h) := by
      intro up e o h h1 h2 h3
      have g2 : ∀ i, h ≤ i → o + i = o + h + (i - h) := fun i hi => by omega
      cases up
      · intro i j hij hj hb
        by_cases ci : i < h
        · by_cases cj : j < h
          · exact h1 i j hij cj hb
          · rcases h3 with h3 | h3
            · simpa using h3 i ci
            · have := h3 (j - h) (by omega)
              rw [show j - h + h = j by omega, hb] at this
              cases this
        · rw [g2 i (by omega)]; rw [g2 j (by omega)] at hb
          exact h2 (i - h) (j - h) (by omega) (by omega) hb
      · intro i j hij hj hb
        by_cases ci : i < h
        · by_cases cj : j < h
          · exact h1 i j hij cj hb
          · rcases h3 with h3 | h3
            · have := h3 i ci
              rw [hb] at this; cases this
            · have := h3 (j - h) (by omega)
              rwa [show j - h + h = j by omega] at this
        · rw [g2 j (by omega)]; rw [g2 i (by omega)] at hb
          exact h2 (i - h) (j - h) (by omega) (by omega) hb
    cases d with
    | true =>
      have hlo : ∀ i, i < 2 ^ r → c (x * (2 * 2 ^ r) + i) = (b (x * (2 * 2 ^ r) + i) && b (x * (2 * 2 ^ r) + (i + 2 ^ r))) := fun i hi => by rw [← hcd, rb_low hi, if_pos ((hd i (by omega)).2 rfl)]
      have hhi : ∀ i, i < 2 ^ r → c (x * (2 * 2 ^ r) + (i + 2 ^ r)) = (b (x * (2 * 2 ^ r) + i) || b (x * (2 * 2 ^ r) + (i + 2 ^ r))) := fun i hi => by rw [← hcd, rb_high hi, if_pos ((hd (i + 2 ^ r) (by omega)).2 rfl), Bool.or_comm]
      obtain ⟨b1, b2, hcl⟩ := half_bit hb hlo hhi
      refine join true _ _ _ (ih1 b1) (ih2 b2) ?_
      rcases hcl with hcl | hcl
      · exact .inl (kc1 false hcl)
      · right
        intro i hi
        have := kc2 true (fun i hi => by rw [show x * (2 * 2 ^ r) + 2 ^ r + i = x * (2 * 2 ^ r) + (i + 2 ^ r) by omega]; exact hcl i hi) i hi
        rwa [show x * (2 * 2 ^ r) + 2 ^ r + i = x * (2 * 2 ^ r) + (i + 2 ^ r) by omega] at this
    | false =>
      have dm : ∀ p q : Bool, (!(p || q)) = (!p && !q) := by decide
      have dm2 : ∀ p q : Bool, (!(p && q)) = (!p || !q) := by decide
      have hlo : ∀ i, i < 2 ^ r → (!c (x * (2 * 2 ^ r) + i)) = (!b (x * (2 * 2 ^ r) + i) && !b (x * (2 * 2 ^ r) + (i + 2 ^ r))) := fun i hi => by rw [← hcd, rb_low hi, if_neg (fun h => by simpa using (hd i (by omega)).1 h), dm]
      have hhi : ∀ i, i < 2 ^ r → (!c (x * (2 * 2 ^ r) + (i + 2 ^ r))) = (!b (x * (2 * 2 ^ r) + i) || !b (x * (2 * 2 ^ r) + (i + 2 ^ r))) := fun i hi => by rw [← hcd, rb_high hi, if_neg (fun h => by simpa using (hd (i + 2 ^ r) (by omega)).1 h), Bool.and_comm, dm2]
      obtain ⟨b1, b2, hcl⟩ := half_bit (b := fun i => !b i) (c := fun i => !c i) (not_bit hb) hlo hhi
      have nn : ∀ {o : Nat}, Bit (fun i => !c i) o (2 ^ r) → Bit c o (2 ^ r) := fun h => by have := not_bit h; simpa using this
      refine join false _ _ _ (ih1 (nn b1)) (ih2 (nn b2)) ?_
      rcases hcl with hcl | hcl
      · exact .inl (kc1 true (fun i hi => by simpa using hcl i hi))
      · right
        intro i hi
        have := kc2 false (fun i hi => by rw [show x * (2 * 2 ^ r) + 2 ^ r + i = x * (2 * 2 ^ r) + (i + 2 ^ r) by omega]; simpa using hcl i hi) i hi
        rwa [show x * (2 * 2 ^ r) + 2 ^ r + i = x * (2 * 2 ^ r) + (i + 2 ^ r) by omega] at this
theorem asc_cut {b : Nat → Bool} {o : Nat} : ∀ {h : Nat}, Asc b o h → ∃ a, a ≤ h ∧ ∀ i, i < h → b (o + i) = decide (a ≤ i)
  | 0, _ => ⟨0, Nat.le_refl _, fun i hi => by omega⟩
  | h + 1, hb => by
    obtain ⟨a, ha, hc⟩ := asc_cut (b := b) (o := o) (h := h) (fun i j hij hj => hb i j hij (by omega))
    by_cases e : a < h
    · refine ⟨a, by omega, fun i hi => ?_⟩
      by_cases c : i < h
      · exact hc i c
      · rw [decide_eq_true (by omega : a ≤ i)]
        exact hb a i (by omega) hi (by rw [hc a e]; simp)
    · cases hv : b (o + h)
      · refine ⟨h + 1, Nat.le_refl _, fun i hi => ?_⟩
        by_cases c : i < h
        · rw [hc i c]; simp; omega
        · rw [show i = h by omega, hv]; simp
      · refine ⟨h, by omega, fun i hi => ?_⟩
        by_cases c : i < h
        · rw [hc i c]; simp; omega
        · rw [show i = h by omega, hv]; simp
theorem desc_cut {b : Nat → Bool} {o : Nat} {h : Nat} (hd : Desc b o h) : ∃ e, e ≤ h ∧ ∀ i, i < h → b (o + i) = decide (i < e) := by
  obtain ⟨a, ha, hc⟩ := asc_cut (b := fun i => !b i) (o := o) (h := h) (fun i j hij hj hb => by
    cases hv : b (o + j)
    · show (!b (o + j)) = true
      rw [hv]; rfl
    · have := hd i j hij hj hv; simp [this] at hb)
  refine ⟨a, ha, fun i hi => ?_⟩
  have := hc i hi
  cases hv : b (o + i) <;> simp [hv] at this ⊢ <;> omega
theorem bit_of_halves {b : Nat → Bool} {o h : Nat} (h1 : Asc b o h) (h2 : Desc b (o + h) h) : Bit b o (2 * h) := by
  obtain ⟨a, ha, hc⟩ := asc_cut h1
  obtain ⟨e, he, hd⟩ := desc_cut h2
  refine ⟨false, a, h + e, fun i hi => ?_⟩
  by_cases c : i < h
  · rw [hc i c, Bool.eq_iff_iff]; simp; omega
  · rw [show o + i = o + h + (i - h) by omega, hd (i - h) (by omega), Bool.eq_iff_iff]; simp; omega
theorem srt_ord : ∀ (q : Nat) (b : Nat → Bool) (x : Nat), Ord (decide (x % 2 = 0)) (srt q b) (x * 2 ^ q) (2 ^ q)
  | 0, b, x => by
    cases decide (x % 2 = 0) <;> intro i j hij hj h <;> simp at hj <;> subst hj <;> simp at hij <;> subst hij <;> exact h
  | q + 1, b, x => by
    show Ord _ (mrg (2 ^ (q + 1)) (q + 1) (srt q b)) _ _
    have h1 := srt_ord q b (2 * x)
    have h2 := srt_ord q b (2 * x + 1)
    have e2 : 2 ^ (q + 1) = 2 * 2 ^ q := by rw [Nat.pow_succ, Nat.mul_comm]
    have e1 : 2 * x * 2 ^ q = x * (2 * 2 ^ q) := by rw [Nat.mul_comm 2 x, Nat.mul_assoc]
    have e3 : (2 * x + 1) * 2 ^ q = x * (2 * 2 ^ q) + 2 ^ q := by rw [Nat.add_mul, Nat.mul_comm 2 x, Nat.mul_assoc]; omega
    rw [e1, show decide (2 * x % 2 = 0) = true by simp] at h1
    rw [e3, show decide ((2 * x + 1) % 2 = 0) = false by simp] at h2
    refine merge_sorts _ _ _ _ _ (fun i hi => ?_) ?_
    · rw [show (x * 2 ^ (q + 1) + i) / 2 ^ (q + 1) = x by rw [Nat.mul_comm, Nat.mul_add_div (Nat.pos_of_neZero _), Nat.div_eq_of_lt hi]; rfl]
      simp
    · rw [e2]; exact bit_of_halves h1 h2
/- The same on numbers, and by single comparators. -/
def rnd (k j : Nat) (s : Nat → Int) (i : Nat) : Int :=
  if (i / j % 2 = 0) = (i / k % 2 = 0) then min (s i) (s (if i / j % 2 = 0 then i + j else i - j)) else max (s i) (s (if i / j % 2 = 0 then i + j else i - j))
def mrgI (k : Nat) : Nat → (Nat → Int) → Nat → Int
  | 0, s => s
  | r + 1, s => mrgI k r (rnd k (2 ^ r) s)
def srtI : Nat → (Nat → Int) → Nat → Int
  | 0, s => s
  | q + 1, s => mrgI (2 ^ (q + 1)) (q + 1) (srtI q s)
def thr (t : Int) (s : Nat → Int) : Nat → Bool := fun i => decide (t ≤ s i)
theorem thr_rnd (t : Int) (k j : Nat) (s : Nat → Int) : thr t (rnd k j s) = rb k j (thr t s) := by
  funext i
  unfold thr rnd rb
  generalize (if i / j % 2 = 0 then i + j else i - j) = p
  split <;> rw [Bool.eq_iff_iff] <;> simp <;> omega
theorem thr_mrg (t : Int) (k : Nat) : ∀ (r : Nat) (s : Nat → Int), thr t (mrgI k r s) = mrg k r (thr t s)
  | 0, s => rfl
  | r + 1, s => by show thr t (mrgI k r _) = mrg k r _; rw [thr_mrg t k r, thr_rnd]
theorem thr_srt (t : Int) : ∀ (q : Nat) (s : Nat → Int), thr t (srtI q s) = srt q (thr t s)
  | 0, s => rfl
  | q + 1, s => by show thr t (mrgI _ _ _) = mrg _ _ _; rw [thr_mrg, thr_srt t q]
/-- The network sorts. -/
theorem srtI_sorts (q : Nat) (s : Nat → Int) {i j : Nat} (hij : i ≤ j) (hj : j < 2 ^ q) : srtI q s i ≤ srtI q s j := by
  have h := srt_ord q (thr (srtI q s i) s) 0
  rw [← thr_srt] at h
  have := h i j hij hj (by simp [thr])
  simpa [thr] using this
/-- The comparators of a round: the pairs of Low and High. -/
def cmpAt (k j i : Nat) : Option (Nat × Nat) := if i / j % 2 = 1 then none else if i / k % 2 = 1 then some (i + j, i) else some (i, i + j)
def compL (k j n : Nat) : List (Nat × Nat) := (List.range n).filterMap (cmpAt k j)
def jl (n k : Nat) : Nat → List (Nat × Nat)
  | 0 => []
  | r + 1 => compL k (2 ^ r) n ++ jl n k r
def kl (n : Nat) : Nat → List (Nat × Nat)
  | 0 => []
  | q + 1 => kl n q ++ jl n (2 ^ (q + 1)) (q + 1)
def app (s : Nat → Int) (c : Nat × Nat) : Nat → Int := fun x => if x = c.1 then min (s c.1) (s c.2) else if x = c.2 then max (s c.1) (s c.2) else s x
def low (j x : Nat) : Nat := if x / j % 2 = 0 then x else x - j
theorem parts {j : Nat} (hj : 0 < j) (x : Nat) : ∃ u v, v < j ∧ ((x = 2 * j * u + v ∧ x / j % 2 = 0) ∨ (x = 2 * j * u + (v + j) ∧ x / j % 2 = 1)) := by
  have hlt := Nat.mod_lt x (show 0 < 2 * j by omega)
  have hdm := Nat.div_add_mod x (2 * j)
  by_cases h : x % (2 * j) < j
  · refine ⟨x / (2 * j), x % (2 * j), h, .inl ⟨hdm.symm, ?_⟩⟩
    have := div_low (x := x / (2 * j)) (h := j) h
    rwa [Nat.mul_comm (x / (2 * j)), hdm] at this
  · refine ⟨x / (2 * j), x % (2 * j) - j, by omega, .inr ⟨by omega, ?_⟩⟩
    have := div_high (x := x / (2 * j)) (h := j) (i := x % (2 * j) - j) (by omega)
    rwa [Nat.mul_comm (x / (2 * j)), show x % (2 * j) - j + j = x % (2 * j) by omega, hdm] at this
theorem dir_same {j y u v : Nat} (hy : 0 < y) (hj : 0 < j) (hv : v < j) : (2 * j * u + (v + j)) / (2 * j * y) = (2 * j * u + v) / (2 * j * y) := by
  rw [← Nat.div_div_eq_div_mul _ (2 * j), ← Nat.div_div_eq_div_mul _ (2 * j), Nat.mul_add_div (by omega), Nat.mul_add_div (by omega), Nat.div_eq_of_lt (by omega : v + j < 2 * j), Nat.div_eq_of_lt (by omega : v < 2 * j)]
/-- A round by its comparators, one behind the other. -/
theorem round_seq {j y : Nat} (hj : 0 < j) (hy : 0 < y) (s : Nat → Int) : ∀ (n : Nat) (x : Nat), ((List.range n).filterMap (cmpAt (2 * j * y) j)).foldl app s x = if low j x < n then rnd (2 * j * y) j s x else s x
  | 0, x => by simp
  | n + 1, x => by
    rw [List.range_succ, List.filterMap_append, List.foldl_append]
    have ih := round_seq hj hy s n
    generalize ((List.range n).filterMap (cmpAt (2 * j * y) j)).foldl app s = S at ih
    obtain ⟨u, v, hv, ⟨hn, hb⟩ | ⟨hn, hb⟩⟩ := parts hj n
    · -- a comparator
      have hd := dir_same (u := u) hy hj hv
      have hnj : n + j = 2 * j * u + (v + j) := by omega
      rw [← hnj, ← hn] at hd
      have hbj : (n + j) / j % 2 = 1 := by rw [hnj, Nat.mul_comm (2 * j)]; exact div_high hv
      have ln : low j n = n := by unfold low; rw [if_pos hb]
      have lnj : low j (n + j) = n := by unfold low; rw [if_neg (by omega)]; omega
      have sn : S n = s n := by rw [ih, ln, if_neg (by omega)]
      have snj : S (n + j) = s (n + j) := by rw [ih, lnj, if_neg (by omega)]
      have rn : rnd (2 * j * y) j s n = if n / (2 * j * y) % 2 = 1 then max (s n) (s (n + j)) else min (s n) (s (n + j)) := by
        unfold rnd; rw [hb]
        by_cases c : n / (2 * j * y) % 2 = 1
        · rw [if_pos c, c]; simp
        · rw [if_neg c, show n / (2 * j * y) % 2 = 0 by omega]; simp
      have rnj : rnd (2 * j * y) j s (n + j) = if n / (2 * j * y) % 2 = 1 then min (s n) (s (n + j)) else max (s n) (s (n + j)) := by
        unfold rnd; rw [hbj, hd]
        by_cases c : n / (2 * j * y) % 2 = 1
        · rw [if_pos c, c]; simp [Int.min_comm]
        · rw [if_neg c, show n / (2 * j * y) % 2 = 0 by omega]; simp [Int.max_comm]
      have other : ∀ x, x ≠ n → x ≠ n + j → (low j x < n + 1 ↔ low j x < n) := fun x h1 h2 => by
        have : low j x ≠ n := fun e => by
          obtain ⟨u', v', hv', ⟨hx, hbx⟩ | ⟨hx, hbx⟩⟩ := parts hj x
          · unfold low at e; rw [if_pos hbx] at e; exact h1 e
          · unfold low at e; rw [if_neg (by omega)] at e; omega
        omega
      unfold cmpAt
      rw [List.filterMap_cons, if_neg (by omega)]
      by_cases c : n / (2 * j * y) % 2 = 1
      · simp only [if_pos c, List.filterMap_nil, List.foldl_cons, List.foldl_nil, app]
        by_cases e1 : x = n
        · subst e1; rw [if_neg (by omega), if_pos rfl, ln, if_pos (by omega), rn, if_pos c, sn, snj, Int.max_comm]
        · by_cases e2 : x = n + j
          · subst e2; rw [if_pos rfl, lnj, if_pos (by omega), rnj, if_pos c, sn, snj, Int.min_comm]
          · rw [if_neg e2, if_neg e1, ih]; simp only [other x e1 e2]
      · simp only [if_neg c, List.filterMap_nil, List.foldl_cons, List.foldl_nil, app]
        by_cases e1 : x = n
        · subst e1; rw [if_pos rfl, ln, if_pos (by omega), rn, if_neg c, sn, snj]
        · by_cases e2 : x = n + j
          · subst e2; rw [if_neg (by omega), if_pos rfl, lnj, if_pos (by omega), rnj, if_neg c, sn, snj]
          · rw [if_neg e1, if_neg e2, ih]; simp only [other x e1 e2]
    · -- none
      unfold cmpAt
      simp only [List.filterMap_cons, if_pos hb, List.filterMap_nil, List.foldl_nil]
      rw [ih]
      have : low j x ≠ n := fun e => by
        obtain ⟨u', v', hv', ⟨hx, hbx⟩ | ⟨hx, hbx⟩⟩ := parts hj x
        · unfold low at e; rw [if_pos hbx] at e; subst e; omega
        · unfold low at e; rw [if_neg (by omega)] at e
          have h0 := div_low (x := u') (h := j) hv'
          rw [Nat.mul_comm u', show 2 * j * u' + v' = n by omega] at h0
          omega
      by_cases c : low j x < n
      · rw [if_pos c, if_pos (by omega)]
      · rw [if_neg c, if_neg (by omega)]
/- Lists. -/
/-- One comparator on a list. -/
def cswap (l : List Int) (c : Nat × Nat) : List Int := (l.set c.1 (min (l.getD c.1 0) (l.getD c.2 0))).set c.2 (max (l.getD c.1 0) (l.getD c.2 0))
theorem cswap_len (l : List Int) (c : Nat × Nat) : (cswap l c).length = l.length := by simp [cswap]
theorem foldl_len (cs : List (Nat × Nat)) (l : List Int) : (cs.foldl cswap l).length = l.length := by
  induction cs generalizing l with
  | nil => rfl
  | cons c cs ih => rw [List.foldl_cons, ih, cswap_len]
theorem getD_set (l : List Int) (i x : Nat) (v : Int) (h : i < l.length) : (l.set i v).getD x 0 = if x = i then v else l.getD x 0 := by
  rw [List.getD_eq_getElem?_getD, List.getD_eq_getElem?_getD]
  by_cases e : x = i
  · subst e; rw [if_pos rfl, List.getElem?_set_self h]; rfl
  · rw [if_neg e, List.getElem?_set_ne (fun h => e h.symm)]
theorem cswap_fn {l : List Int} {c : Nat × Nat} (h1 : c.1 < l.length) (h2 : c.2 < l.length) (hne : c.1 ≠ c.2) (x : Nat) : (cswap l c).getD x 0 = app (fun i => l.getD i 0) c x := by
  unfold cswap app
  rw [getD_set _ _ _ _ (by simpa using h2), getD_set _ _ _ _ h1]
  by_cases e1 : x = c.1
  · subst e1; rw [if_neg hne, if_pos rfl, if_pos rfl]
  · by_cases e2 : x = c.2
    · rw [if_pos e2, if_neg e1, if_pos e2]
    · rw [if_neg e2, if_neg e1, if_neg e1, if_neg e2]
theorem cswap_perm {l : List Int} {c : Nat × Nat} (h1 : c.1 < l.length) (h2 : c.2 < l.length) : (cswap l c).Perm l := by
  unfold cswap
  have g1 : l.getD c.1 0 = l[c.1] := by simp [h1]
  have g2 : l.getD c.2 0 = l[c.2] := by simp [h2]
  rw [g1, g2]
  by_cases h : l[c.1] ≤ l[c.2]
  · rw [Int.min_eq_left h, Int.max_eq_right h]
    have e1 : l.set c.1 l[c.1] = l := List.set_getElem_self h1
    rw [e1, List.set_getElem_self h2]
  · rw [Int.min_eq_right (by omega), Int.max_eq_left (by omega)]
    exact List.set_set_perm h1 h2
/-- Comparators within n. -/
def Within (n : Nat) (cs : List (Nat × Nat)) : Prop := ∀ c ∈ cs, c.1 < n ∧ c.2 < n ∧ c.1 ≠ c.2
theorem foldl_perm {n : Nat} : ∀ {cs : List (Nat × Nat)} {l : List Int}, Within n cs → l.length = n → (cs.foldl cswap l).Perm l
  | [], l, _, _ => .refl _
  | c :: cs, l, h, hl => by
    obtain ⟨h1, h2, _⟩ := h c (by simp)
    show (cs.foldl cswap (cswap l c)).Perm l
    exact (foldl_perm (cs := cs) (l := cswap l c) (fun d hd => h d (by simp [hd])) (by rw [cswap_len]; exact hl)).trans (cswap_perm (by omega) (by omega))
theorem app_congr {s t : Nat → Int} {n : Nat} {c : Nat × Nat} (h1 : c.1 < n) (h2 : c.2 < n) (h : ∀ x, x < n → s x = t x) : ∀ x, x < n → app s c x = app t c x := fun x hx => by
  unfold app; rw [h _ h1, h _ h2, h x hx]
theorem foldl_fn {n : Nat} : ∀ {cs : List (Nat × Nat)} {l : List Int} {s : Nat → Int}, Within n cs → l.length = n → (∀ x, x < n → l.getD x 0 = s x) → ∀ x, x < n → (cs.foldl cswap l).getD x 0 = cs.foldl app s x
  | [], l, s, _, _, h, x, hx => h x hx
  | c :: cs, l, s, hw, hl, h, x, hx => by
    obtain ⟨h1, h2, h3⟩ := hw c (by simp)
    refine foldl_fn (cs := cs) (fun d hd => hw d (by simp [hd])) (by rw [cswap_len]; exact hl) (fun y hy => ?_) x hx
    rw [cswap_fn (by omega) (by omega) h3]
    exact app_congr h1 h2 h y hy
/- All rounds. -/
theorem low_lt {j n m : Nat} (hj : 0 < j) (hn : n = 2 * j * m) (x : Nat) : low j x < n ↔ x < n := by
  obtain ⟨u, v, hv, ⟨hx, hb⟩ | ⟨hx, hb⟩⟩ := parts hj x
  · unfold low; rw [if_pos hb]
  · have hl : low j x = 2 * j * u + v := by unfold low; rw [if_neg (by omega)]; omega
    rw [hl, hx, hn]
    constructor
    · intro h
      have : u < m := by
        by_cases e : u < m
        · exact e
        · have := Nat.mul_le_mul_left (2 * j) (show m ≤ u by omega); omega
      have := Nat.mul_le_mul_left (2 * j) (show u + 1 ≤ m by omega)
      rw [Nat.mul_add] at this
      omega
    · intro h; omega
theorem cmp_within {j y n m : Nat} (hj : 0 < j) (hn : n = 2 * j * m) : Within n (compL (2 * j * y) j n) := by
  intro c hc
  unfold compL at hc
  obtain ⟨i, hi, he⟩ := List.mem_filterMap.1 hc
  have hi := List.mem_range.1 hi
  unfold cmpAt at he
  by_cases hb : i / j % 2 = 1
  · rw [if_pos hb] at he; cases he
  · rw [if_neg hb] at he
    have hp : i + j < n := by
      have h1 := (low_lt hj hn (i + j)).1
      refine h1 ?_
      obtain ⟨u, v, hv, ⟨hx, hb'⟩ | ⟨hx, hb'⟩⟩ := parts hj i
      · have hbj : (i + j) / j % 2 = 1 := by rw [show i + j = 2 * j * u + (v + j) by omega, Nat.mul_comm (2 * j)]; exact div_high hv
        unfold low; rw [if_neg (by omega)]; omega
      · omega
    split at he <;> (injection he with he; subst he; simp only; omega)
theorem round_fn {j y n m : Nat} (hj : 0 < j) (hy : 0 < y) (hn : n = 2 * j * m) (s : Nat → Int) (x : Nat) (hx : x < n) : (compL (2 * j * y) j n).foldl app s x = rnd (2 * j * y) j s x := by
  have := round_seq hj hy s n x
  unfold compL
  rw [this, if_pos ((low_lt hj hn x).2 hx)]
theorem rnd_congr {j k n m : Nat} (hj : 0 < j) (hn : n = 2 * j * m) {s t : Nat → Int} (h : ∀ x, x < n → s x = t x) : ∀ x, x < n → rnd k j s x = rnd k j t x := fun x hx => by
  have hp : (if x / j % 2 = 0 then x + j else x - j) < n := by
    split
    · rename_i hb
      refine (low_lt hj hn (x + j)).1 ?_
      obtain ⟨u, v, hv, ⟨hx', hb'⟩ | ⟨hx', hb'⟩⟩ := parts hj x
      · have hbj : (x + j) / j % 2 = 1 := by rw [show x + j = 2 * j * u + (v + j) by omega, Nat.mul_comm (2 * j)]; exact div_high hv
        unfold low; rw [if_neg (by omega)]; omega
      · omega
    · omega
  unfold rnd
  rw [h x hx, h _ hp]
theorem foldl_app_congr {n : Nat} : ∀ {cs : List (Nat × Nat)} {s t : Nat → Int}, Within n cs → (∀ x, x < n → s x = t x) → ∀ x, x < n → cs.foldl app s x = cs.foldl app t x
  | [], s, t, _, h, x, hx => h x hx
  | c :: cs, s, t, hw, h, x, hx => by
    obtain ⟨h1, h2, _⟩ := hw c (by simp)
    exact foldl_app_congr (cs := cs) (fun d hd => hw d (by simp [hd])) (app_congr h1 h2 h) x hx
theorem within_append {n : Nat} {a b : List (Nat × Nat)} (ha : Within n a) (hb : Within n b) : Within n (a ++ b) := fun c hc => (List.mem_append.1 hc).elim (ha c) (hb c)
theorem pow_split {r q : Nat} (h : r < q) : 2 ^ q = 2 * 2 ^ r * 2 ^ (q - r - 1) := by
  rw [← Nat.pow_succ', ← Nat.pow_add]; congr 1; omega
/-- The rounds j = 2^(r-1), .., 1 for k = 2^q, within n = 2^N. -/
theorem jl_ok {N q : Nat} (hqN : q ≤ N) : ∀ (r : Nat), r ≤ q → Within (2 ^ N) (jl (2 ^ N) (2 ^ q) r) ∧ ∀ (s t : Nat → Int), (∀ x, x < 2 ^ N → s x = t x) → ∀ x, x < 2 ^ N → (jl (2 ^ N) (2 ^ q) r).foldl app s x = mrgI (2 ^ q) r t x
  | 0, _ => ⟨fun c hc => (by cases hc), fun s t h x hx => h x hx⟩
  | r + 1, hr => by
    obtain ⟨h1, h2⟩ := jl_ok hqN r (by omega)
    have hk := pow_split (r := r) (q := q) (by omega)
    have hn := pow_split (r := r) (q := N) (by omega)
    have hp : 0 < 2 ^ r := Nat.pos_of_neZero _
    have hy : 0 < 2 ^ (q - r - 1) := Nat.pos_of_neZero _
    have hw : Within (2 ^ N) (compL (2 ^ q) (2 ^ r) (2 ^ N)) := by rw [hk]; exact cmp_within hp hn
    refine ⟨within_append hw h1, fun s t h x hx => ?_⟩
    show (compL (2 ^ q) (2 ^ r) (2 ^ N) ++ jl (2 ^ N) (2 ^ q) r).foldl app s x = mrgI (2 ^ q) r (rnd (2 ^ q) (2 ^ r) t) x
    rw [List.foldl_append]
    refine h2 _ _ (fun y hy' => ?_) x hx
    have := round_fn hp hy hn s y hy'
    rw [← hk] at this
    rw [this]
    exact rnd_congr hp hn h y hy'
theorem kl_ok {N : Nat} : ∀ (q : Nat), q ≤ N → Within (2 ^ N) (kl (2 ^ N) q) ∧ ∀ (s : Nat → Int) (x : Nat), x < 2 ^ N → (kl (2 ^ N) q).foldl app s x = srtI q s x
  | 0, _ => ⟨fun c hc => (by cases hc), fun s x hx => rfl⟩
  | q + 1, hq => by
    obtain ⟨h1, h2⟩ := kl_ok (N := N) q (by omega)
    obtain ⟨h3, h4⟩ := jl_ok hq (q + 1) (Nat.le_refl _)
    refine ⟨within_append h1 h3, fun s x hx => ?_⟩
    show (kl (2 ^ N) q ++ jl (2 ^ N) (2 ^ (q + 1)) (q + 1)).foldl app s x = mrgI (2 ^ (q + 1)) (q + 1) (srtI q s) x
    rw [List.foldl_append]
    exact h4 _ _ (fun y hy => h2 s y hy) x hx
/-- The comparators of the network of 2^q. -/
def comps (q : Nat) : List (Nat × Nat) := kl (2 ^ q) q
theorem comps_within (q : Nat) : Within (2 ^ q) (comps q) := (kl_ok q (Nat.le_refl _)).1
/-- What the network makes of a list. -/
def netL (q : Nat) (l : List Int) : List Int := (comps q).foldl cswap l
theorem netL_len (q : Nat) (l : List Int) : (netL q l).length = l.length := foldl_len _ _
theorem netL_perm {q : Nat} {l : List Int} (h : l.length = 2 ^ q) : (netL q l).Perm l := foldl_perm (comps_within q) h
theorem netL_sorted {q : Nat} {l : List Int} (h : l.length = 2 ^ q) : (netL q l).Pairwise (· ≤ ·) := by
  rw [List.pairwise_iff_getElem]
  intro i j hi hj hij
  rw [netL_len] at hi hj
  have key : ∀ x, x < 2 ^ q → (netL q l).getD x 0 = srtI q (fun i => l.getD i 0) x := fun x hx => by
    unfold netL
    rw [foldl_fn (comps_within q) h (fun _ _ => rfl) x hx]
    exact (kl_ok q (Nat.le_refl _)).2 _ x hx
  have h1 := key i (by omega)
  have h2 := key j (by omega)
  rw [List.getD_eq_getElem?_getD, List.getElem?_eq_getElem (by rw [netL_len]; omega)] at h1 h2
  simp only [Option.getD_some] at h1 h2
  rw [h1, h2]
  exact srtI_sorts q _ (by omega) (by omega)
/-- Two lists in ascending order with the same elements are the same. -/
theorem sorted_eq {a b : List Int} (ha : a.Pairwise (· ≤ ·)) (hb : b.Pairwise (· ≤ ·)) (h : a.Perm b) : a = b :=
  h.eq_of_pairwise (fun x y _ _ h1 h2 => Int.le_antisymm h1 h2) ha hb
end Net
end Go.Proofs.YthdghhfdbckilaaDoor
