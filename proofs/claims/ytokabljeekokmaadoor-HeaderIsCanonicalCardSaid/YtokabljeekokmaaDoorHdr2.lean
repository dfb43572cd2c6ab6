/-
  Layer 17: what Parse accepts.
-/
import Derived.Test.YtokabljeekokmaaDoorHdr
namespace Go.Proofs.YtokabljeekokmaaDoor
open Go.RowKit Go.Maps
set_option maxRecDepth 100000
set_option linter.unusedVariables false
set_option linter.unusedSimpArgs false

theorem back_map {t : List Int} (h : UB t) : (t.map rgOf).map rgB = t := by
  rw [List.map_map]
  conv => rhs; rw [← List.map_id t]
  exact List.map_congr_left fun x hx => rg_forth (h x hx)
structure Back (b : List Int) (P : PrS) : Prop where
  ok : Okh P.h
  form : formB P.h = b.take P.n
  n1 : 1 ≤ P.n
  n2 : P.n ≤ b.length
theorem take_dgt {t : List Int} {k : Nat} (h : k + 2 ≤ t.length) : t.take (k + 2) = t.take k ++ [dgt t k, dgt t (k + 1)] := by
  rw [List.take_succ_eq_append_getElem (by omega), List.take_succ_eq_append_getElem (by omega), dgt_lt (by omega), dgt_lt (by omega), List.append_assoc]; rfl
theorem parse_ok {b : List Int} (hU : UB b) (he : (parseH b).e = 0) : Back b (parseH b) := by
  match b, hU, he with
  | [], _, he => exact absurd he (by show (4 : Int) ≠ 0; decide)
  | x :: b1, hU, he =>
    have d0 : dgt (x :: b1) 0 = x := rfl
    have e0 : parseH (x :: b1) = if x < 1 ∨ 5 < x then badP 5 else if x < 3 then ⟨⟨x, 0, [], 0⟩, 1, 0⟩ else if (x :: b1).length < 2 then badP 4 else parseK (x :: b1) x (dgt (x :: b1) 1) := by
      unfold parseH; rw [if_neg (by simp), d0]
    rw [e0] at he ⊢
    by_cases h1 : x < 1 ∨ 5 < x
    · rw [if_pos h1] at he; exact absurd he (by show (5 : Int) ≠ 0; decide)
    rw [if_neg h1] at he ⊢
    by_cases h2 : x < 3
    · rw [if_pos h2]
      refine ⟨⟨by simp only; omega, by simp only; omega, by simp only; omega, by simp only; omega, by simp only; omega, fun _ => rfl, fun _ => rfl, fun _ => rfl⟩, ?_, by simp, by simp⟩
      unfold formB
      rw [if_neg (by simp only; omega), if_neg (by simp only; omega), if_neg (by simp only; omega)]; rfl
    rw [if_neg h2] at he ⊢
    match b1, hU, he with
    | [], _, he => exact absurd he (by show (4 : Int) ≠ 0; decide)
    | y :: t, hU, he =>
      have d1 : dgt (x :: y :: t) 1 = y := rfl
      rw [d1, if_neg (by simp)] at he ⊢
      have hUt : UB t := fun z hz => hU z (by simp [hz])
      by_cases h3 : x = 3
      · subst h3
        have e1 : parseK (3 :: y :: t) 3 y = if y < 3 ∨ 64 < y then badP 6 else ⟨⟨3, y, [], 0⟩, 2, 0⟩ := by unfold parseK; rw [if_pos rfl]
        rw [e1] at he ⊢
        by_cases h4 : y < 3 ∨ 64 < y
        · rw [if_pos h4] at he; exact absurd he (by show (6 : Int) ≠ 0; decide)
        rw [if_neg h4]
        refine ⟨⟨by simp only; omega, by simp only; omega, by simp only; omega, by simp only; omega, by simp only; omega, fun h => absurd rfl h, fun _ => rfl, fun _ => rfl⟩, ?_, by simp, by simp⟩
        unfold formB
        rw [if_pos rfl, if_neg (by simp only; omega), if_neg (by simp only; omega)]; rfl
      have e1 : parseK (x :: y :: t) x y = if y < 1 ∨ 64 < y then badP 6 else parseR (x :: y :: t) x y.toNat := by unfold parseK; rw [if_neg h3]
      rw [e1] at he ⊢
      by_cases h4 : y < 1 ∨ 64 < y
      · rw [if_pos h4] at he; exact absurd he (by show (6 : Int) ≠ 0; decide)
      rw [if_neg h4] at he ⊢
      obtain ⟨k, rfl⟩ : ∃ k : Nat, y = k := ⟨y.toNat, by omega⟩
      rw [Int.toNat_natCast] at he ⊢
      have e2 : ksOf (x :: (k : Int) :: t) k = (t.take k).map rgOf := rfl
      unfold parseR at he ⊢
      rw [e2] at he ⊢
      by_cases h5 : (x :: (k : Int) :: t).length < 2 + k
      · rw [if_pos h5] at he; exact absurd he (by show (4 : Int) ≠ 0; decide)
      rw [if_neg h5] at he ⊢
      have hkl : k ≤ t.length := by simp at h5; omega
      by_cases h6 : anyBad ((t.take k).map rgOf) = true
      · rw [if_pos h6] at he; exact absurd he (by show (7 : Int) ≠ 0; decide)
      rw [if_neg h6] at he ⊢
      have hbad : anyBad ((t.take k).map rgOf) = false := by simpa using h6
      have hlk : ((t.take k).map rgOf).length = k := by simp; omega
      have hbk : ((t.take k).map rgOf).map rgB = t.take k := back_map (hUt.take k)
      by_cases h7 : x = 4
      · subst h7
        rw [if_pos rfl]
        refine ⟨⟨by simp only; omega, by simp only; omega, fun _ => by simp only; omega, fun _ => hbad, by simp only; omega, fun _ => rfl, by simp only; omega, fun _ => rfl⟩, ?_, by simp only; omega, by simp; omega⟩
        unfold formB
        simp only
        rw [if_neg (by omega), if_pos (by omega), if_neg (by omega), hbk, hlk, show 2 + k = k + 1 + 1 by omega]
        simp
      rw [if_neg h7] at he ⊢
      obtain rfl : x = 5 := by omega
      unfold parseP at he ⊢
      rw [e2] at he ⊢
      by_cases h8 : (5 :: (k : Int) :: t).length < 4 + k
      · rw [if_pos h8] at he; exact absurd he (by show (4 : Int) ≠ 0; decide)
      rw [if_neg h8] at he ⊢
      have hkl2 : k + 2 ≤ t.length := by simp at h8; omega
      have e3 : ptsOf (5 :: (k : Int) :: t) k = dgt t k + 256 * dgt t (k + 1) := by
        unfold ptsOf; rw [show 2 + k = k + 1 + 1 by omega, show 3 + k = k + 1 + 1 + 1 by omega]; rfl
      rw [e3] at he ⊢
      by_cases h9 : dgt t k + 256 * dgt t (k + 1) < 1 ∨ 4096 < dgt t k + 256 * dgt t (k + 1)
      · rw [if_pos h9] at he; exact absurd he (by show (6 : Int) ≠ 0; decide)
      rw [if_neg h9]
      have b0 := hUt.dgt k
      have b1 := hUt.dgt (k + 1)
      refine ⟨⟨by simp only; omega, by simp only; omega, fun _ => by simp only; omega, fun _ => hbad, fun _ => by simp only; omega, fun _ => rfl, by simp only; omega, fun h => absurd rfl h⟩, ?_, by simp only; omega, by simp; omega⟩
      unfold formB
      simp only
      rw [if_neg (by omega), if_pos (by omega), if_pos trivial, hbk, hlk, show 4 + k = k + 2 + 1 + 1 by omega, show (dgt t k + 256 * dgt t (k + 1)) % 256 = dgt t k by omega, show (dgt t k + 256 * dgt t (k + 1)) / 256 = dgt t (k + 1) by omega]
      simp only [List.take_succ_cons, take_dgt hkl2]
      simp
def BadQ (P : PrS) : Prop := P.e = 0 ∨ P = badP 4 ∨ P = badP 5 ∨ P = badP 6 ∨ P = badP 7
theorem bq4 : BadQ (badP 4) := .inr (.inl rfl)
theorem bq5 : BadQ (badP 5) := .inr (.inr (.inl rfl))
theorem bq6 : BadQ (badP 6) := .inr (.inr (.inr (.inl rfl)))
theorem bq7 : BadQ (badP 7) := .inr (.inr (.inr (.inr rfl)))
theorem parseP_q (b : List Int) (k : Nat) : BadQ (parseP b k) := by
  unfold parseP
  split
  · exact bq4
  split
  · exact bq6
  · exact .inl rfl
theorem parseR_q (b : List Int) (op : Int) (k : Nat) : BadQ (parseR b op k) := by
  unfold parseR
  split
  · exact bq4
  split
  · exact bq7
  split
  · exact .inl rfl
  · exact parseP_q _ _
theorem parseK_q (b : List Int) (op k : Int) : BadQ (parseK b op k) := by
  unfold parseK
  split
  · split
    · exact bq6
    · exact .inl rfl
  split
  · exact bq6
  · exact parseR_q _ _ _
theorem parseH_q (b : List Int) : BadQ (parseH b) := by
  unfold parseH
  split
  · exact bq4
  split
  · exact bq5
  split
  · exact .inl rfl
  split
  · exact bq4
  · exact parseK_q _ _ _
theorem parse_bad {b : List Int} (he : (parseH b).e ≠ 0) : parseH b = badP (parseH b).e ∧ ((parseH b).e = 4 ∨ (parseH b).e = 5 ∨ (parseH b).e = 6 ∨ (parseH b).e = 7) := by
  rcases parseH_q b with h | h | h | h | h
  · exact absurd h he
  · rw [h]; exact ⟨rfl, .inl rfl⟩
  · rw [h]; exact ⟨rfl, .inr (.inl rfl)⟩
  · rw [h]; exact ⟨rfl, .inr (.inr (.inl rfl))⟩
  · rw [h]; exact ⟨rfl, .inr (.inr (.inr rfl))⟩
/-- Each proper prefix of a header is too short. -/
theorem parse_pre {h : Hq} (k : Okh h) {j : Nat} (hj : j < (formB h).length) : parseH ((formB h).take j) = badP 4 := by
  have h0 := k.op
  match j, hj with
  | 0, _ => rfl
  | j + 1, hj =>
    by_cases h1 : h.op < 3
    · rw [(form12 k h1).1] at hj; simp at hj
    by_cases h3 : h.op = 3
    · rw [(form3 k h3).1] at hj ⊢
      obtain rfl : j = 0 := by simp at hj; omega
      unfold parseH
      rw [show dgt (([3, h.vs] : List Int).take (0 + 1)) 0 = 3 from rfl, if_neg (by simp), if_neg (by omega), if_neg (by omega), if_pos (by simp)]
    have hl := k.len (by omega)
    have hb := k.ok (by omega)
    obtain ⟨r, hr, hrl⟩ : ∃ r : List Int, formB h = h.op :: (h.ks.length : Int) :: (h.ks.map rgB ++ r) ∧ ((h.op = 4 ∧ r = []) ∨ (h.op = 5 ∧ r.length = 2)) := by
      by_cases h4 : h.op = 4
      · exact ⟨[], by rw [(form4 k h4).1, h4]; simp, .inl ⟨h4, rfl⟩⟩
      · exact ⟨_, by rw [(form5 k (by omega)).1, show h.op = 5 by omega], .inr ⟨by omega, rfl⟩⟩
    rw [hr] at hj ⊢
    match j, hj with
    | 0, hj =>
      unfold parseH
      rw [show dgt ((h.op :: (h.ks.length : Int) :: (h.ks.map rgB ++ r)).take (0 + 1)) 0 = h.op from rfl, if_neg (by simp), if_neg (by omega), if_neg (by omega), if_pos (by simp)]
    | j + 1, hj =>
      have hjl : j < h.ks.length + r.length := by simp at hj; omega
      have el : ((h.op :: (h.ks.length : Int) :: (h.ks.map rgB ++ r)).take (j + 1 + 1)).length = j + 2 := by simp; omega
      unfold parseH
      rw [show dgt ((h.op :: (h.ks.length : Int) :: (h.ks.map rgB ++ r)).take (j + 1 + 1)) 0 = h.op from rfl, show dgt ((h.op :: (h.ks.length : Int) :: (h.ks.map rgB ++ r)).take (j + 1 + 1)) 1 = h.ks.length from rfl,
        el, if_neg (by omega), if_neg (by omega), if_neg (by omega), if_neg (by omega)]
      unfold parseK
      rw [if_neg (by omega), if_neg (by omega), Int.toNat_natCast]
      unfold parseR
      rw [el]
      by_cases hj2 : j < h.ks.length
      · rw [if_pos (by omega)]
      · rw [if_neg (by omega)]
        have h5 : h.op = 5 ∧ r.length = 2 := by
          rcases hrl with ⟨e1, e2⟩ | e
          · rw [e2] at hjl; simp at hjl; omega
          · exact e
        have e3 : ksOf ((h.op :: (h.ks.length : Int) :: (h.ks.map rgB ++ r)).take (j + 1 + 1)) h.ks.length = h.ks := by
          have e4 : (h.op :: (h.ks.length : Int) :: (h.ks.map rgB ++ r)).take (j + 1 + 1) = h.op :: (h.ks.length : Int) :: (h.ks.map rgB ++ r.take (j - h.ks.length)) := by
            rw [List.take_succ_cons, List.take_succ_cons, List.take_append, List.length_map, List.take_of_length_le (by rw [List.length_map]; omega)]
          rw [e4]; exact ksOf_app hb _
        rw [e3, if_neg (by rw [hb]; simp), if_neg (by omega)]
        unfold parseP
        rw [el, if_pos (by omega)]
end Go.Proofs.YtokabljeekokmaaDoor
