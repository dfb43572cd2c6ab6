/-
  Layer 17: headers as plain data. No program is named here.
-/
import Derived.Test.YtokabljeekokmaaDoorRgA
namespace Go.Proofs.YtokabljeekokmaaDoor

/-- A header: of each region whether it denies, and its vertices' number. -/
structure Hq where
  op : Int
  vs : Int
  ks : List (Bool × Int)
  pts : Int
  deriving DecidableEq
def rgK (r : Rg) : Bool × Int := (r.d, r.v)
/-- Whether a region has points. -/
def rgP (rs : List Rg) : Bool := rs.any fun r => decide (0 < r.l.length)
/-- Numbers of a byte. -/
def UB (l : List Int) : Prop := ∀ x ∈ l, 0 ≤ x ∧ x < 256
theorem UB.dgt {l : List Int} (h : UB l) (k : Nat) : 0 ≤ dgt l k ∧ dgt l k < 256 := by
  by_cases hk : k < l.length
  · rw [dgt_lt hk]; exact h _ (List.getElem_mem hk)
  · unfold Go.Proofs.YtokabljeekokmaaDoor.dgt
    rw [List.getD_eq_getElem?_getD, List.getElem?_eq_none (by omega)]; simp
theorem UB.nil : UB [] := by intro x h; cases h
theorem UB.app {a b : List Int} (ha : UB a) (hb : UB b) : UB (a ++ b) := fun x h => by
  rcases List.mem_append.1 h with h | h
  · exact ha x h
  · exact hb x h
theorem UB.take {l : List Int} (h : UB l) (n : Nat) : UB (l.take n) := fun x hx => h x (List.mem_of_mem_take hx)
theorem UB.of_app {a b : List Int} (h : UB (a ++ b)) : UB a := fun x hx => h x (List.mem_append.2 (.inl hx))
def rgOf (x : Int) : Bool × Int := (decide (128 ≤ x), x % 128)
def rgB (k : Bool × Int) : Int := if k.1 then k.2 + 128 else k.2
theorem wrap_u8' {x : Int} (h1 : 0 ≤ x) (h2 : x < 256) : IntKind.u8.wrap x = x := by simp [IntKind.wrap, IntKind.signed, IntKind.bits]; omega
/-- What Parse says. -/
structure PrS where
  h : Hq
  n : Nat
  e : Int
def badP (e : Int) : PrS := ⟨⟨0, 0, [], 0⟩, 0, e⟩
def anyBad (ks : List (Bool × Int)) : Bool := ks.any fun k => decide (sizeF k.2 = 0)
def ksOf (b : List Int) (k : Nat) : List (Bool × Int) := ((b.drop 2).take k).map rgOf
def ptsOf (b : List Int) (k : Nat) : Int := dgt b (2 + k) + 256 * dgt b (3 + k)
def parseP (b : List Int) (k : Nat) : PrS :=
  if b.length < 4 + k then badP 4 else if ptsOf b k < 1 ∨ 4096 < ptsOf b k then badP 6 else ⟨⟨5, 0, ksOf b k, ptsOf b k⟩, 4 + k, 0⟩
def parseR (b : List Int) (op : Int) (k : Nat) : PrS :=
  if b.length < 2 + k then badP 4 else if anyBad (ksOf b k) = true then badP 7 else if op = 4 then ⟨⟨4, 0, ksOf b k, 0⟩, 2 + k, 0⟩ else parseP b k
def parseK (b : List Int) (op k : Int) : PrS :=
  if op = 3 then (if k < 3 ∨ 64 < k then badP 6 else ⟨⟨3, k, [], 0⟩, 2, 0⟩)
  else if k < 1 ∨ 64 < k then badP 6 else parseR b op k.toNat
def parseH (b : List Int) : PrS :=
  if b.length = 0 then badP 4 else if dgt b 0 < 1 ∨ 5 < dgt b 0 then badP 5
  else if dgt b 0 < 3 then ⟨⟨dgt b 0, 0, [], 0⟩, 1, 0⟩ else if b.length < 2 then badP 4 else parseK b (dgt b 0) (dgt b 1)
/-- What Format says: the error, the bytes. -/
def unusedH (h : Hq) : Bool := (!decide (h.op = 3) && !decide (h.vs = 0)) || (decide (h.op < 4) && decide (0 < h.ks.length)) || (!decide (h.op = 5) && !decide (h.pts = 0))
def formErr (h : Hq) (p : Bool) : Int :=
  if h.op < 1 ∨ 5 < h.op then 5
  else if h.op = 3 ∧ (h.vs < 3 ∨ 64 < h.vs) then 6
  else if 4 ≤ h.op ∧ ((h.ks.length : Int) < 1 ∨ 64 < (h.ks.length : Int)) then 6
  else if 4 ≤ h.op ∧ anyBad h.ks = true then 7
  else if h.op = 5 ∧ (h.pts < 1 ∨ 4096 < h.pts) then 6
  else if unusedH h = true then 2
  else if p = true then 2 else 0
def formB (h : Hq) : List Int :=
  [h.op] ++ (if h.op = 3 then [h.vs] else []) ++ (if 4 ≤ h.op then [(h.ks.length : Int)] else []) ++ h.ks.map rgB ++ (if h.op = 5 then [h.pts % 256, h.pts / 256] else [])
/-- The lengths. -/
def ptsK : List (Bool × Int) → Int
  | [] => 0
  | k :: ks => sizeF k.2 + ptsK ks
def payL (h : Hq) : Int :=
  if h.op = 1 then 48 else if h.op = 2 then 64 else if h.op = 3 then 16 * (h.vs + 1) else if h.op = 4 then 16 * (ptsK h.ks + 1) else 16 * ptsK h.ks + 24 * h.pts
def rspL (h : Hq) : Int := if h.op = 5 then 4 + 9 * h.pts else 2
def classH (b : List Int) : Int :=
  if (parseH b).e = 0 then (if (b.length : Int) = (parseH b).n + payL (parseH b).h then 0 else 8) else (parseH b).e

/-! ### What an accepted header is like -/
structure Okh (h : Hq) : Prop where
  op : 1 ≤ h.op ∧ h.op ≤ 5
  vs3 : h.op = 3 → 3 ≤ h.vs ∧ h.vs ≤ 64
  len : 4 ≤ h.op → 1 ≤ h.ks.length ∧ h.ks.length ≤ 64
  ok : 4 ≤ h.op → anyBad h.ks = false
  pts5 : h.op = 5 → 1 ≤ h.pts ∧ h.pts ≤ 4096
  vs0 : h.op ≠ 3 → h.vs = 0
  len0 : h.op < 4 → h.ks = []
  pts0 : h.op ≠ 5 → h.pts = 0
theorem unused_iff (h : Hq) : unusedH h = false ↔ (h.op ≠ 3 → h.vs = 0) ∧ (h.op < 4 → h.ks.length = 0) ∧ (h.op ≠ 5 → h.pts = 0) := by
  unfold unusedH
  simp only [Bool.or_eq_false_iff, Bool.and_eq_false_iff, Bool.not_eq_false', decide_eq_true_eq, decide_eq_false_iff_not]
  omega
theorem formErr_ok {h : Hq} {p : Bool} : formErr h p = 0 ↔ Okh h ∧ p = false := by
  unfold formErr
  constructor
  · intro e
    split at e; · omega
    split at e; · omega
    split at e; · omega
    split at e; · omega
    split at e; · omega
    split at e; · omega
    split at e; · omega
    rename_i h1 h2 h3 h4 h5 h6 h7
    have hu := (unused_iff h).1 (by simpa using h6)
    refine ⟨⟨by omega, by omega, by omega, fun h8 => ?_, by omega, hu.1, fun h8 => List.length_eq_zero_iff.1 (hu.2.1 h8), hu.2.2⟩, by simpa using h7⟩
    by_cases hb : anyBad h.ks = true
    · exact absurd ⟨h8, hb⟩ h4
    · simpa using hb
  · rintro ⟨k, rfl⟩
    have hu : unusedH h = false := (unused_iff h).2 ⟨k.vs0, fun h8 => by rw [k.len0 h8]; rfl, k.pts0⟩
    have := k.op
    rw [if_neg (by omega), if_neg (fun h => by have := k.vs3 h.1; omega), if_neg (fun h => by have := k.len h.1; omega), if_neg (fun h => by rw [k.ok h.1] at h; simp at h), if_neg (fun h => by have := k.pts5 h.1; omega), if_neg (by rw [hu]; simp)]
    rfl
theorem formErr_in (h : Hq) (p : Bool) : formErr h p = 0 ∨ formErr h p = 2 ∨ formErr h p = 5 ∨ formErr h p = 6 ∨ formErr h p = 7 := by
  unfold formErr
  repeat' split
  all_goals omega
theorem badK {ks : List (Bool × Int)} (h : anyBad ks = false) : ∀ k ∈ ks, k.2 = 0 ∨ 3 ≤ k.2 ∧ k.2 ≤ 64 := by
  intro k hk
  have h1 : sizeF k.2 ≠ 0 := fun e => by
    have : anyBad ks = true := List.any_eq_true.2 ⟨k, hk, by simpa using e⟩
    rw [h] at this; cases this
  unfold sizeF at h1
  by_cases h2 : k.2 = 0
  · exact .inl h2
  · rw [if_neg h2] at h1
    by_cases h3 : 3 ≤ k.2 ∧ k.2 ≤ 64
    · exact .inr h3
    · rw [if_neg h3] at h1; exact absurd rfl h1
theorem rg_back {k : Bool × Int} (h : k.2 = 0 ∨ 3 ≤ k.2 ∧ k.2 ≤ 64) : rgOf (rgB k) = k := by
  obtain ⟨d, v⟩ := k
  simp only at h
  unfold rgOf rgB
  cases d
  · simp only [Bool.false_eq_true, if_false]
    rw [show decide (128 ≤ v) = false by simp; omega, show v % 128 = v by omega]
  · simp only [if_true]
    rw [show decide (128 ≤ v + 128) = true by simp; omega, show (v + 128) % 128 = v by omega]
theorem rg_forth {x : Int} (h : 0 ≤ x ∧ x < 256) : rgB (rgOf x) = x := by
  unfold rgB rgOf
  by_cases h1 : 128 ≤ x
  · rw [show decide (128 ≤ x) = true by simpa using h1]; simp; omega
  · rw [show decide (128 ≤ x) = false by simpa using h1]; simp; omega
theorem rgB_byte {k : Bool × Int} (h : k.2 = 0 ∨ 3 ≤ k.2 ∧ k.2 ≤ 64) : 0 ≤ rgB k ∧ rgB k < 256 := by
  unfold rgB; split <;> omega
theorem ksB {ks : List (Bool × Int)} (h : anyBad ks = false) : (ks.map rgB).map rgOf = ks := by
  rw [List.map_map]
  conv => rhs; rw [← List.map_id ks]
  exact List.map_congr_left fun k hk => rg_back (badK h k hk)
theorem ubK {ks : List (Bool × Int)} (h : anyBad ks = false) : UB (ks.map rgB) := fun x hx => by
  obtain ⟨k, hk, rfl⟩ := List.mem_map.1 hx
  exact rgB_byte (badK h k hk)
theorem formB_ub {h : Hq} (k : Okh h) : UB (formB h) := by
  have := k.op
  unfold formB
  refine UB.app (UB.app (UB.app (UB.app ?_ ?_) ?_) ?_) ?_
  · intro x hx; rw [List.mem_singleton] at hx; omega
  · split
    · rename_i h3; have := k.vs3 h3; intro x hx; rw [List.mem_singleton] at hx; omega
    · exact UB.nil
  · split
    · rename_i h3; have := k.len h3; intro x hx; rw [List.mem_singleton] at hx; omega
    · exact UB.nil
  · by_cases h4 : 4 ≤ h.op
    · exact ubK (k.ok h4)
    · rw [k.len0 (by omega)]; exact UB.nil
  · split
    · rename_i h3; have := k.pts5 h3; intro x hx; simp at hx; omega
    · exact UB.nil
/-! ### The three shapes of a header -/
theorem form12 {h : Hq} (k : Okh h) (h1 : h.op < 3) : formB h = [h.op] ∧ h = ⟨h.op, 0, [], 0⟩ := by
  have e1 := k.len0 (by omega)
  have e2 := k.vs0 (by omega)
  have e3 := k.pts0 (by omega)
  constructor
  · unfold formB; rw [e1, if_neg (by omega), if_neg (by omega), if_neg (by omega)]; rfl
  · obtain ⟨a, b, c, d⟩ := h; simp only at e1 e2 e3; rw [e1, e2, e3]
theorem form3 {h : Hq} (k : Okh h) (h1 : h.op = 3) : formB h = [3, h.vs] ∧ h = ⟨3, h.vs, [], 0⟩ := by
  have e1 := k.len0 (by omega)
  have e3 := k.pts0 (by omega)
  constructor
  · unfold formB; rw [e1, if_pos h1, if_neg (by omega), if_neg (by omega), h1]; rfl
  · obtain ⟨a, b, c, d⟩ := h; simp only at e1 e3 h1; rw [e1, e3, h1]
theorem form4 {h : Hq} (k : Okh h) (h1 : h.op = 4) : formB h = 4 :: (h.ks.length : Int) :: h.ks.map rgB ∧ h = ⟨4, 0, h.ks, 0⟩ := by
  have e1 := k.vs0 (by omega)
  have e3 := k.pts0 (by omega)
  constructor
  · unfold formB; rw [if_neg (by omega), if_pos (by omega), if_neg (by omega), h1]; simp
  · obtain ⟨a, b, c, d⟩ := h; simp only at e1 e3 h1; rw [e1, e3, h1]
theorem form5 {h : Hq} (k : Okh h) (h1 : h.op = 5) : formB h = 5 :: (h.ks.length : Int) :: (h.ks.map rgB ++ [h.pts % 256, h.pts / 256]) ∧ h = ⟨5, 0, h.ks, h.pts⟩ := by
  have e1 := k.vs0 (by omega)
  constructor
  · unfold formB; rw [if_neg (by omega), if_pos (by omega), if_pos h1, h1]; simp
  · obtain ⟨a, b, c, d⟩ := h; simp only at e1 h1; rw [e1, h1]
theorem formB_len {h : Hq} (k : Okh h) : 1 ≤ (formB h).length ∧ (formB h).length ≤ 68 := by
  have h0 := k.op
  by_cases h1 : h.op < 3
  · rw [(form12 k h1).1]; simp
  · by_cases h3 : h.op = 3
    · rw [(form3 k h3).1]; simp
    · have := k.len (by omega)
      by_cases h4 : h.op = 4
      · rw [(form4 k h4).1]; simp; omega
      · rw [(form5 k (by omega)).1]; simp; omega
/-! ### Parse inverts Format -/
theorem dgt_app_lt {a b : List Int} {i : Nat} (h : i < a.length) : dgt (a ++ b) i = dgt a i := by
  unfold dgt; rw [List.getD_eq_getElem?_getD, List.getD_eq_getElem?_getD, List.getElem?_append_left h]
theorem dgt_app_ge {a b : List Int} {i : Nat} (h : a.length ≤ i) : dgt (a ++ b) i = dgt b (i - a.length) := by
  unfold dgt; rw [List.getD_eq_getElem?_getD, List.getD_eq_getElem?_getD, List.getElem?_append_right h]
theorem ksOf_app {ks : List (Bool × Int)} {x y : Int} (h : anyBad ks = false) (r : List Int) : ksOf (x :: y :: (ks.map rgB ++ r)) ks.length = ks := by
  unfold ksOf
  show ((ks.map rgB ++ r).take ks.length).map rgOf = ks
  rw [List.take_append_of_le_length (by simp), List.take_of_length_le (by simp)]
  exact ksB h
theorem parse_form {h : Hq} (k : Okh h) (r : List Int) : parseH (formB h ++ r) = ⟨h, (formB h).length, 0⟩ := by
  have h0 := k.op
  by_cases h1 : h.op < 3
  · obtain ⟨e1, e2⟩ := form12 k h1
    rw [e1]
    unfold parseH
    rw [show dgt ([h.op] ++ r) 0 = h.op from rfl, if_neg (by simp), if_neg (by omega), if_pos h1]
    rw [← e2]; rfl
  · by_cases h3 : h.op = 3
    · obtain ⟨e1, e2⟩ := form3 k h3
      have := k.vs3 h3
      rw [e1]
      unfold parseH
      rw [show dgt ([3, h.vs] ++ r) 0 = 3 from rfl, show dgt ([3, h.vs] ++ r) 1 = h.vs from rfl, if_neg (by simp), if_neg (by omega), if_neg (by omega), if_neg (by simp)]
      unfold parseK
      rw [if_pos rfl, if_neg (by omega), ← e2]; rfl
    · have hl := k.len (by omega)
      have hb := k.ok (by omega)
      by_cases h4 : h.op = 4
      · obtain ⟨e1, e2⟩ := form4 k h4
        rw [e1]
        have d0 : dgt (4 :: (h.ks.length : Int) :: h.ks.map rgB ++ r) 0 = 4 := rfl
        have d1 : dgt (4 :: (h.ks.length : Int) :: h.ks.map rgB ++ r) 1 = h.ks.length := rfl
        unfold parseH
        rw [d0, d1, if_neg (by simp), if_neg (by omega), if_neg (by omega), if_neg (by simp)]
        unfold parseK
        rw [if_neg (by omega), if_neg (by omega)]
        unfold parseR
        have e3 : ksOf (4 :: (h.ks.length : Int) :: h.ks.map rgB ++ r) (h.ks.length : Int).toNat = h.ks := ksOf_app hb r
        rw [e3, if_neg (by simp; omega), if_neg (by rw [hb]; simp), if_pos rfl, ← e2]
        simp; omega
      · obtain ⟨e1, e2⟩ := form5 k (by omega)
        have hp := k.pts5 (by omega)
        rw [e1]
        obtain ⟨B, hB⟩ : ∃ B, B = 5 :: (h.ks.length : Int) :: (h.ks.map rgB ++ [h.pts % 256, h.pts / 256]) ++ r := ⟨_, rfl⟩
        have d0 : dgt B 0 = 5 := by rw [hB]; rfl
        have d1 : dgt B 1 = h.ks.length := by rw [hB]; rfl
        have hlen : B.length = h.ks.length + 4 + r.length := by rw [hB]; simp; omega
        have hle2 : (5 :: (h.ks.length : Int) :: (h.ks.map rgB ++ [h.pts % 256, h.pts / 256])).length = 4 + h.ks.length := by simp; omega
        have hB2 : B = 5 :: (h.ks.length : Int) :: (h.ks.map rgB ++ ([h.pts % 256, h.pts / 256] ++ r)) := by rw [hB]; simp
        rw [← hB, hle2]
        unfold parseH
        rw [d0, d1, if_neg (by omega), if_neg (by omega), if_neg (by omega), if_neg (by omega)]
        unfold parseK
        rw [if_neg (by omega), if_neg (by omega)]
        unfold parseR
        have e3 : ksOf B (h.ks.length : Int).toNat = h.ks := by rw [hB2]; exact ksOf_app hb _
        rw [e3, if_neg (by omega), if_neg (by rw [hb]; simp), if_neg (by omega)]
        unfold parseP
        have p1 : ptsOf B (h.ks.length : Int).toNat = h.pts := by
          unfold ptsOf
          have q1 : dgt B (2 + (h.ks.length : Int).toNat) = h.pts % 256 := by
            rw [hB2, show 2 + (h.ks.length : Int).toNat = h.ks.length + 2 by omega]
            show dgt (h.ks.map rgB ++ ([h.pts % 256, h.pts / 256] ++ r)) h.ks.length = _
            rw [dgt_app_ge (by simp), List.length_map, Nat.sub_self]; rfl
          have q2 : dgt B (3 + (h.ks.length : Int).toNat) = h.pts / 256 := by
            rw [hB2, show 3 + (h.ks.length : Int).toNat = h.ks.length + 1 + 2 by omega]
            show dgt (h.ks.map rgB ++ ([h.pts % 256, h.pts / 256] ++ r)) (h.ks.length + 1) = _
            rw [dgt_app_ge (by simp), List.length_map, Nat.add_sub_cancel_left]; rfl
          rw [q1, q2]; omega
        rw [e3, p1, if_neg (by omega), if_neg (by omega), ← e2]
        rfl
end Go.Proofs.YtokabljeekokmaaDoor
