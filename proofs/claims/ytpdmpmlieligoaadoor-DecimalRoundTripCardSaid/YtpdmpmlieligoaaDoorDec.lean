/-
  Plain mathematics: decimal forms. No program is named here.
-/
import Derived.Test.YtpdmpmlieligoaaDoorLimbs
namespace Go.Proofs.YtpdmpmlieligoaaDoor

/-- A digit's byte. -/
def dig (d : Nat) : UInt8 := UInt8.ofNat (48 + d)
theorem dig_nat {d : Nat} (h : d < 10) : (dig d).toNat = 48 + d := by unfold dig; simp; omega
/-- The decimal digits of a natural number. -/
def decN (n : Nat) : List UInt8 := if n < 10 then [dig n] else decN (n / 10) ++ [dig (n % 10)]
termination_by n
decreasing_by omega
theorem decN_small {n : Nat} (h : n < 10) : decN n = [dig n] := by rw [decN, if_pos h]
theorem decN_big {n : Nat} (h : 10 ≤ n) : decN n = decN (n / 10) ++ [dig (n % 10)] := by rw [decN, if_neg (by omega)]
/-- The digits still to come before those that stand. -/
def preN (n : Nat) (s : List UInt8) : List UInt8 := if n = 0 then s else decN n ++ s
theorem preN_zero (s : List UInt8) : preN 0 s = s := by unfold preN; rw [if_pos rfl]
theorem preN_step {n : Nat} (h : 0 < n) (s : List UInt8) : preN (n / 10) (dig (n % 10) :: s) = preN n s := by
  unfold preN
  rw [if_neg (show n ≠ 0 by omega)]
  rcases Nat.lt_or_ge n 10 with h1 | h1
  · rw [if_pos (by omega), decN_small h1, Nat.mod_eq_of_lt h1]; rfl
  · rw [if_neg (by omega), decN_big h1]; simp
theorem preN_all {n : Nat} (h : 0 < n) : preN n [] = decN n := by unfold preN; rw [if_neg (by omega)]; simp
theorem decN_zero : decN 0 = [dig 0] := decN_small (by omega)
/-- Digits. -/
def Digs (l : List UInt8) : Prop := ∀ c ∈ l, 48 ≤ c.toNat ∧ c.toNat ≤ 57
theorem Digs.snoc {l : List UInt8} (h : Digs l) {c : UInt8} (hc : 48 ≤ c.toNat ∧ c.toNat ≤ 57) : Digs (l ++ [c]) := fun x hx => by
  rcases List.mem_append.1 hx with hx | hx
  · exact h x hx
  · simp at hx; subst hx; exact hc
theorem dig_bd {d : Nat} (h : d < 10) : 48 ≤ (dig d).toNat ∧ (dig d).toNat ≤ 57 := by rw [dig_nat h]; omega
theorem decN_digs (n : Nat) : Digs (decN n) := by
  induction n using Nat.strongRecOn with
  | ind n ih =>
    rcases Nat.lt_or_ge n 10 with h | h
    · rw [decN_small h]; intro c hc; simp at hc; subst hc; exact dig_bd h
    · rw [decN_big h]; exact (ih (n / 10) (by omega)).snoc (dig_bd (by omega))
theorem decN_ne (n : Nat) : decN n ≠ [] := by
  rcases Nat.lt_or_ge n 10 with h | h
  · rw [decN_small h]; simp
  · rw [decN_big h]; simp
/-- The number that digits write. -/
def valN (l : List UInt8) : Nat := l.foldl (fun x c => 10 * x + (c.toNat - 48)) 0
theorem valN_snoc (l : List UInt8) (c : UInt8) : valN (l ++ [c]) = 10 * valN l + (c.toNat - 48) := by unfold valN; rw [List.foldl_append]; rfl
theorem valN_decN (n : Nat) : valN (decN n) = n := by
  induction n using Nat.strongRecOn with
  | ind n ih =>
    rcases Nat.lt_or_ge n 10 with h | h
    · rw [decN_small h]
      show 10 * 0 + ((dig n).toNat - 48) = n
      rw [dig_nat h]; omega
    · rw [decN_big h, valN_snoc, ih (n / 10) (by omega), dig_nat (by omega)]; omega
/-- No leading zero, but for 0 itself. -/
def Lead (l : List UInt8) : Prop := l ≠ [] ∧ (l.head? = some 48 → l = [48])
theorem dig_zero : dig 0 = 48 := rfl
theorem dig_inj {d : Nat} (h : d < 10) (e : dig d = 48) : d = 0 := by
  have := dig_nat h
  rw [e] at this
  simp at this
  omega
theorem decN_lead (n : Nat) : Lead (decN n) := by
  refine ⟨decN_ne n, ?_⟩
  induction n using Nat.strongRecOn with
  | ind n ih =>
    rcases Nat.lt_or_ge n 10 with h | h
    · rw [decN_small h]; intro e; simp at e; rw [e]
    · rw [decN_big h]
      intro e
      have hne := decN_ne (n / 10)
      have e2 : (decN (n / 10)).head? = some 48 := by
        cases hc : decN (n / 10) with
        | nil => exact absurd hc hne
        | cons a r => rw [hc] at e; simpa using e
      have e3 := ih (n / 10) (by omega) e2
      have e4 := valN_decN (n / 10)
      rw [e3] at e4
      have : valN [48] = 0 := by decide
      omega
theorem byte_dig {c : UInt8} (h : 48 ≤ c.toNat ∧ c.toNat ≤ 57) : dig (c.toNat - 48) = c := by
  apply UInt8.toNat_inj.1
  rw [dig_nat (by omega)]; omega
theorem Lead.init {l : List UInt8} {c : UInt8} (h : Lead (l ++ [c])) (hne : l ≠ []) : Lead l ∧ l.head? ≠ some 48 := by
  have h1 : l.head? ≠ some 48 := fun e => by
    have h2 := h.2 (by cases l with
      | nil => exact absurd rfl hne
      | cons a r => simpa using e)
    have h3 := congrArg List.length h2
    simp at h3
    exact hne h3
  exact ⟨⟨hne, fun e => absurd e h1⟩, h1⟩
theorem valN_pos {l : List UInt8} (hd : Digs l) (hne : l ≠ []) (h : l.head? ≠ some 48) : 10 ^ (l.length - 1) ≤ valN l := by
  induction hn : l.length using Nat.strongRecOn generalizing l with
  | ind n ih =>
    have e := List.dropLast_concat_getLast hne
    generalize l.getLast hne = c at e
    generalize l.dropLast = r at e
    subst e
    have hdr : Digs r := fun x hx => hd x (by simp [hx])
    have hdc := hd c (by simp)
    rw [valN_snoc]
    cases r with
    | nil =>
      simp at hn h
      subst hn
      have : c.toNat ≠ 48 := fun e => h (UInt8.toNat_inj.1 (by rw [e]; rfl))
      simp [valN]; omega
    | cons a t =>
      have := ih (a :: t).length (by simp at hn ⊢; omega) hdr (by simp) (by simpa using h) rfl
      simp at hn this ⊢
      subst hn
      rw [show t.length + 1 + 1 - 1 = t.length + 1 by omega, Nat.pow_succ]
      omega
/-- Digits without leading zeros are those of their number. -/
theorem decN_valN {l : List UInt8} (hd : Digs l) (h : Lead l) : decN (valN l) = l := by
  induction hn : l.length using Nat.strongRecOn generalizing l with
  | ind n ih =>
    have hne := h.1
    have e := List.dropLast_concat_getLast hne
    generalize l.getLast hne = c at e
    generalize l.dropLast = r at e
    subst e
    have hdr : Digs r := fun x hx => hd x (by simp [hx])
    have hdc := hd c (by simp)
    by_cases hr : r = []
    · subst hr
      have e1 : valN ([] ++ [c]) = c.toNat - 48 := by simp [valN]
      rw [e1, decN_small (by omega), byte_dig hdc]; rfl
    · obtain ⟨h1, h2⟩ := h.init hr
      have h3 := valN_pos hdr hr h2
      have h4 : 0 < 10 ^ (r.length - 1) := Nat.pow_pos (by omega)
      rw [valN_snoc, decN_big (by omega), show (10 * valN r + (c.toNat - 48)) / 10 = valN r by omega, show (10 * valN r + (c.toNat - 48)) % 10 = c.toNat - 48 by omega,
        ih r.length (by simp at hn; omega) hdr h1 rfl, byte_dig hdc]
/-- The decimal form of an integer. -/
def decL (x : Int) : List UInt8 := if x < 0 then 45 :: decN x.natAbs else decN x.natAbs
/-- What stands behind the sign. -/
def bodyL (s : List UInt8) : List UInt8 := if s.head? = some 45 then s.tail else s
/-- The number whose decimal form a text is. -/
def decOf (s : List UInt8) : Option Int :=
  if (bodyL s = [] ∨ ((bodyL s).head? = some 48 ∧ s ≠ [48])) ∨ ¬ ((bodyL s).all fun c => 48 ≤ c && c ≤ 57) = true then none
  else some (if (bodyL s).length < s.length then -(valN (bodyL s) : Int) else (valN (bodyL s) : Int))
theorem digs_all {l : List UInt8} : (l.all fun c => 48 ≤ c && c ≤ 57) = true ↔ Digs l := by
  rw [List.all_eq_true]
  unfold Digs
  constructor
  · intro h c hc
    have := h c hc
    simp [UInt8.le_iff_toNat_le] at this
    exact this
  · intro h c hc
    have := h c hc
    simp [UInt8.le_iff_toNat_le]
    exact this
theorem body_cases (s : List UInt8) : (∃ r, s = 45 :: r ∧ bodyL s = r) ∨ (s.head? ≠ some 45 ∧ bodyL s = s) := by
  unfold bodyL
  by_cases h : s.head? = some 45
  · cases s with
    | nil => simp at h
    | cons a r => simp at h; subst h; exact .inl ⟨r, rfl, by simp⟩
  · exact .inr ⟨h, by rw [if_neg h]⟩
theorem Digs.not_minus {l : List UInt8} (h : Digs l) : l.head? ≠ some 45 := fun e => by
  cases l with
  | nil => simp at e
  | cons a r => simp at e; subst e; have := h 45 (by simp); simp at this
theorem decOf_decL (x : Int) : decOf (decL x) = some x := by
  have hd := decN_digs x.natAbs
  have hl := decN_lead x.natAbs
  have hv := valN_decN x.natAbs
  unfold decL
  by_cases h : x < 0
  · rw [if_pos h]
    have hb : bodyL (45 :: decN x.natAbs) = decN x.natAbs := by simp [bodyL]
    unfold decOf
    rw [hb, if_neg]
    · rw [if_pos (by simp), hv]; congr 1; omega
    · rintro ((h1 | ⟨h1, h2⟩) | h1)
      · exact hl.1 h1
      · have h3 := hl.2 h1
        rw [h3] at hv
        have : valN [48] = 0 := by decide
        omega
      · exact h1 (digs_all.2 hd)
  · rw [if_neg h]
    have hb : bodyL (decN x.natAbs) = decN x.natAbs := by unfold bodyL; rw [if_neg hd.not_minus]
    unfold decOf
    rw [hb, if_neg]
    · rw [if_neg (by omega), hv]; congr 1; omega
    · rintro ((h1 | ⟨h1, h2⟩) | h1)
      · exact hl.1 h1
      · exact h2 (hl.2 h1)
      · exact h1 (digs_all.2 hd)
theorem decL_decOf {s : List UInt8} {x : Int} (h : decOf s = some x) : decL x = s := by
  unfold decOf at h
  split at h
  · cases h
  · rename_i hc
    have hne : bodyL s ≠ [] := fun e => hc (.inl (.inl e))
    have h0 : (bodyL s).head? = some 48 → s = [48] := fun e => by
      by_cases hs : s = [48]
      · exact hs
      · exact absurd (.inl (.inr ⟨e, hs⟩)) hc
    have hd : Digs (bodyL s) := digs_all.1 (by
      by_cases ha : ((bodyL s).all fun c => 48 ≤ c && c ≤ 57) = true
      · exact ha
      · exact absurd (.inr ha) hc)
    injection h with h
    rcases body_cases s with ⟨r, rfl, hb⟩ | ⟨hm, hb⟩
    · rw [hb] at hne h0 hd h
      rw [if_pos (by simp)] at h
      have hr0 : r.head? ≠ some 48 := fun e => by have := h0 e; simp at this
      have hp := valN_pos hd hne hr0
      have hq : 0 < 10 ^ (r.length - 1) := Nat.pow_pos (by omega)
      unfold decL
      rw [if_pos (by omega), ← h, Int.natAbs_neg, Int.natAbs_natCast, decN_valN hd ⟨hne, fun e => absurd e hr0⟩]
    · rw [hb] at hne h0 hd h
      rw [if_neg (by omega)] at h
      unfold decL
      rw [if_neg (by omega), ← h, Int.natAbs_natCast, decN_valN hd ⟨hne, h0⟩]
/-- A long text's number is great. -/
theorem decOf_long {s : List UInt8} {x : Int} (h : decOf s = some x) (hl : 160 < (bodyL s).length) : (10 : Int) ^ 160 ≤ x.natAbs := by
  have e := decL_decOf h
  have hb : bodyL s = decN x.natAbs := by
    rw [← e]
    unfold decL
    split
    · simp [bodyL]
    · unfold bodyL; rw [if_neg (decN_digs _).not_minus]
  rw [hb] at hl
  have hd := decN_digs x.natAbs
  have hld := decN_lead x.natAbs
  have h48 : (decN x.natAbs).head? ≠ some 48 := fun e => by rw [hld.2 e] at hl; simp at hl
  have hp := valN_pos hd hld.1 h48
  rw [valN_decN] at hp
  have : 10 ^ 160 ≤ 10 ^ ((decN x.natAbs).length - 1) := Nat.pow_le_pow_right (by omega) (by omega)
  have h3 : (10 ^ 160 : Nat) ≤ x.natAbs := by omega
  exact_mod_cast h3
end Go.Proofs.YtpdmpmlieligoaaDoor
