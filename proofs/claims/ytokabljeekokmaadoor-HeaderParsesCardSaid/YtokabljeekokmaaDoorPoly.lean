/-
  Layer 14: convex polygons by orientations. No program is named here.
-/
import Derived.Test.YtokabljeekokmaaDoorBase
namespace Go.Proofs.YtokabljeekokmaaDoor
open Go.RowKit
set_option maxRecDepth 100000
set_option linter.unusedVariables false
set_option linter.unusedSimpArgs false

theorem wrap_i64' {x : Int} (h1 : -9223372036854775808 ≤ x) (h2 : x < 9223372036854775808) : IntKind.i64.wrap x = x := by rw [wrap_s]; omega
/-- A point. -/
structure Pt where
  x : Int
  y : Int
  deriving DecidableEq
def ptC (p : Pt) : List Value := [.int .i64 p.x, .int .i64 p.y]
theorem ptC_len (p : Pt) : (ptC p).length = 2 := rfl
/-- Points whose coordinates are numbers of 64 bits. -/
def SsP (l : List Pt) : Prop := ∀ p ∈ l, S p.x ∧ S p.y
/-- Twice the area of a triangle. -/
def detP (a b c : Pt) : Int := (b.x - a.x) * (c.y - a.y) - (b.y - a.y) * (c.x - a.x)
def sgnP (a b c : Pt) : Int := (detP a b c).sign
theorem sgn_swap (a b c : Pt) : sgnP b a c = -sgnP a b c := by
  unfold sgnP
  rw [← Int.sign_neg]
  congr 1
  unfold detP; grind
theorem sgn_cyc (a b c : Pt) : sgnP b c a = sgnP a b c := by unfold sgnP detP; congr 1; grind
theorem sgn_first (a b : Pt) : sgnP a b a = 0 := by unfold sgnP; rw [show detP a b a = 0 by unfold detP; grind]; rfl
theorem sgn_second (a b : Pt) : sgnP a b b = 0 := by unfold sgnP; rw [show detP a b b = 0 by unfold detP; grind]; rfl
theorem sgn_in (a b c : Pt) : sgnP a b c = -1 ∨ sgnP a b c = 0 ∨ sgnP a b c = 1 := by
  unfold sgnP
  rcases Int.lt_trichotomy (detP a b c) 0 with h | h | h
  · exact .inl (Int.sign_eq_neg_one_of_neg h)
  · rw [h]; exact .inr (.inl rfl)
  · exact .inr (.inr (Int.sign_eq_one_of_pos h))
/-- The vertex with an index. -/
def at_ (l : List Pt) (i : Nat) : Pt := l.getD i ⟨0, 0⟩
theorem at_lt {l : List Pt} {i : Nat} (h : i < l.length) : at_ l i = l[i] := by unfold at_; simp [h]
def nx (n i : Nat) : Nat := if i + 1 < n then i + 1 else 0
theorem nx_lt {n i : Nat} (h : 0 < n) : nx n i < n := by unfold nx; split <;> omega
theorem nx_mod {n i : Nat} (h : i < n) : (i + 1) % n = nx n i := by
  unfold nx
  by_cases h1 : i + 1 < n
  · rw [if_pos h1, Nat.mod_eq_of_lt h1]
  · rw [if_neg h1, show i + 1 = n by omega, Nat.mod_self]
def isP (l : List Pt) : Bool := decide (3 ≤ l.length) && decide (l.length ≤ 64)
theorem isP_iff (l : List Pt) : isP l = true ↔ 3 ≤ l.length ∧ l.length ≤ 64 := by unfold isP; simp
def side (l : List Pt) (i : Nat) (p : Pt) : Int := sgnP (at_ l i) (at_ l (nx l.length i)) p
def orP (l : List Pt) : Int := if isP l then sgnP (at_ l 0) (at_ l 1) (at_ l 2) else 0
def good (l : List Pt) (s : Int) : Prop := ∀ i, i < l.length → ∀ j, j < l.length → j ≠ i → j ≠ nx l.length i → side l i (at_ l j) = s
instance (l : List Pt) (s : Int) : Decidable (good l s) := by unfold good; infer_instance
def validP (l : List Pt) : Bool := isP l && decide (orP l ≠ 0) && decide (good l (orP l))
theorem or_side {l : List Pt} (h : isP l = true) : orP l = side l 0 (at_ l 2) := by
  have := (isP_iff l).1 h
  unfold orP side nx
  rw [if_pos h, if_pos (by omega)]
theorem or_good {l : List Pt} {s : Int} (h : isP l = true) (hg : good l s) : orP l = s := by
  have hn := (isP_iff l).1 h
  rw [or_side h]
  exact hg 0 (by omega) 2 (by omega) (by omega) (by unfold nx; rw [if_pos (by omega)]; omega)
theorem or_in (l : List Pt) : orP l = -1 ∨ orP l = 0 ∨ orP l = 1 := by
  unfold orP
  split
  · exact sgn_in _ _ _
  · exact .inr (.inl rfl)
theorem valid_iff (l : List Pt) : validP l = true ↔ isP l = true ∧ ∃ s, s ≠ 0 ∧ good l s := by
  unfold validP
  simp only [Bool.and_eq_true, decide_eq_true_eq]
  constructor
  · rintro ⟨⟨h1, h2⟩, h3⟩; exact ⟨h1, _, h2, h3⟩
  · rintro ⟨h1, s, h2, h3⟩; rw [or_good h1 h3]; exact ⟨⟨h1, h2⟩, h3⟩
theorem valid_s {l : List Pt} (h : validP l = true) : isP l = true ∧ good l (orP l) ∧ (orP l = 1 ∨ orP l = -1) := by
  obtain ⟨h1, s, h2, h3⟩ := (valid_iff l).1 h
  have e := or_good h1 h3
  refine ⟨h1, e ▸ h3, ?_⟩
  rcases or_in l with h | h | h <;> omega
/-- The position of a point. -/
def minL (L : List Int) : Int := L.foldl min 1
theorem foldl_min (L : List Int) : ∀ a : Int, L.foldl min a ≤ a ∧ (∀ x ∈ L, L.foldl min a ≤ x) ∧ (L.foldl min a = a ∨ L.foldl min a ∈ L) := by
  induction L with
  | nil => intro a; exact ⟨Int.le_refl _, fun x h => (by cases h), .inl rfl⟩
  | cons y L ih =>
    intro a
    obtain ⟨h1, h2, h3⟩ := ih (min a y)
    rw [List.foldl_cons]
    refine ⟨by omega, fun x hx => ?_, ?_⟩
    · rcases List.mem_cons.1 hx with rfl | hx
      · omega
      · exact h2 x hx
    · rcases h3 with h3 | h3
      · by_cases e : a ≤ y
        · left; rw [h3]; omega
        · right; rw [h3, show min a y = y by omega]; simp
      · right; simp [h3]
theorem minL_eq {L : List Int} {m : Int} (h1 : m ≤ 1) (h2 : ∀ x ∈ L, m ≤ x) (h3 : m = 1 ∨ m ∈ L) : minL L = m := by
  obtain ⟨k1, k2, k3⟩ := foldl_min L 1
  unfold minL
  rcases h3 with h3 | h3
  · rcases k3 with k3 | k3
    · omega
    · have := h2 _ k3; omega
  · have := k2 m h3
    rcases k3 with k3 | k3
    · omega
    · have := h2 _ k3; omega
theorem minL_congr {L M : List Int} (h : ∀ x, x ∈ L ↔ x ∈ M) : minL L = minL M := by
  obtain ⟨k1, k2, k3⟩ := foldl_min M 1
  exact minL_eq k1 (fun x hx => k2 x ((h x).1 hx)) (k3.imp id (h _).2)
def sides (l : List Pt) (p : Pt) (k : Nat) : List Int := (List.range k).map fun i => orP l * side l i p
def locP (l : List Pt) (p : Pt) : Int := if isP l then minL (sides l p l.length) else -1
theorem mem_sides {l : List Pt} {p : Pt} {k : Nat} {x : Int} : x ∈ sides l p k ↔ ∃ i, i < k ∧ orP l * side l i p = x := by unfold sides; simp [List.mem_map]
theorem minL_snoc (L : List Int) (x : Int) : minL (L ++ [x]) = min (minL L) x := by unfold minL; rw [List.foldl_append]; rfl
theorem sides_succ (l : List Pt) (p : Pt) (k : Nat) : sides l p (k + 1) = sides l p k ++ [orP l * side l k p] := by unfold sides; rw [List.range_succ]; simp
/-- Turning the list round. -/
def rot (l : List Pt) (k : Nat) : List Pt := l.drop k ++ l.take k
def sh (n k i : Nat) : Nat := if i + k < n then i + k else i + k - n
theorem rot_len {l : List Pt} {k : Nat} (h : k ≤ l.length) : (rot l k).length = l.length := by unfold rot; simp; omega
theorem at_rot {l : List Pt} {k i : Nat} (hk : k ≤ l.length) (hi : i < l.length) : at_ (rot l k) i = at_ l (sh l.length k i) := by
  unfold at_ rot sh
  rw [List.getD_eq_getElem?_getD, List.getD_eq_getElem?_getD]
  congr 1
  by_cases h : i + k < l.length
  · rw [if_pos h, List.getElem?_append_left (by simp; omega), List.getElem?_drop]
    congr 1; omega
  · rw [if_neg h, List.getElem?_append_right (by simp; omega), List.getElem?_take, if_pos (by simp; omega)]
    congr 1; simp; omega
theorem sideP_rot {l : List Pt} {k i : Nat} (hk : k ≤ l.length) (hi : i < l.length) (p : Pt) : side (rot l k) i p = side l (sh l.length k i) p := by
  unfold side
  rw [rot_len hk, at_rot hk hi, at_rot hk (nx_lt (by omega))]
  congr 2
  unfold sh nx
  split <;> split <;> (try split) <;> (try split) <;> omega
theorem good_rot {l : List Pt} {k : Nat} {s : Int} (hk : k ≤ l.length) (h : good l s) : good (rot l k) s := by
  intro i hi j hj h1 h2
  rw [rot_len hk] at hi hj h2
  rw [sideP_rot hk hi, at_rot hk hj]
  refine h _ (by unfold sh; split <;> omega) _ (by unfold sh; split <;> omega) (by unfold sh; split <;> split <;> omega) ?_
  unfold sh nx at *
  split <;> (try split) <;> (try split) <;> (try split at h2) <;> (try split) <;> omega
theorem rot_rot {l : List Pt} {k : Nat} (hk : k ≤ l.length) : rot (rot l k) (l.length - k) = l := by
  unfold rot
  have e : l.length - k = (l.drop k).length := by simp
  rw [e, List.drop_left, List.take_left, List.take_append_drop]
theorem isP_rot {l : List Pt} {k : Nat} (hk : k ≤ l.length) : isP (rot l k) = isP l := by unfold isP; rw [rot_len hk]
theorem valid_rot {l : List Pt} {k : Nat} (hk : k ≤ l.length) : validP (rot l k) = validP l := by
  rw [Bool.eq_iff_iff, valid_iff, valid_iff, isP_rot hk]
  constructor
  · rintro ⟨h1, s, h2, h3⟩
    refine ⟨h1, s, h2, ?_⟩
    have := good_rot (l := rot l k) (k := l.length - k) (by rw [rot_len hk]; omega) h3
    rwa [rot_rot hk] at this
  · rintro ⟨h1, s, h2, h3⟩; exact ⟨h1, s, h2, good_rot hk h3⟩
theorem or_rot {l : List Pt} {k : Nat} (hk : k ≤ l.length) (h : validP l = true) : orP (rot l k) = orP l := by
  obtain ⟨h1, h2, _⟩ := valid_s h
  exact or_good (by rw [isP_rot hk]; exact h1) (good_rot hk h2)
theorem loc_rot {l : List Pt} {k : Nat} (hk : k ≤ l.length) (h : validP l = true) (p : Pt) : locP (rot l k) p = locP l p := by
  have h1 := (valid_s h).1
  unfold locP
  rw [isP_rot hk, if_pos h1, if_pos h1, rot_len hk]
  refine minL_congr fun x => ?_
  rw [mem_sides, mem_sides, or_rot hk h]
  constructor
  · rintro ⟨i, hi, e⟩
    rw [sideP_rot hk hi] at e
    exact ⟨_, by unfold sh; split <;> omega, e⟩
  · rintro ⟨i, hi, e⟩
    refine ⟨if k ≤ i then i - k else i + l.length - k, by split <;> omega, ?_⟩
    rw [sideP_rot hk (by split <;> omega), show sh l.length k (if k ≤ i then i - k else i + l.length - k) = i by unfold sh; split <;> split <;> omega]
    exact e
/-- The list the other way round. -/
theorem at_rev {l : List Pt} {i : Nat} (hi : i < l.length) : at_ l.reverse i = at_ l (l.length - 1 - i) := by
  unfold at_
  rw [List.getD_eq_getElem?_getD, List.getD_eq_getElem?_getD, List.getElem?_reverse hi]
theorem side_rev {l : List Pt} {i : Nat} (hi : i < l.length) (p : Pt) : side l.reverse i p = -side l (l.length - 1 - nx l.length i) p := by
  unfold side
  rw [List.length_reverse, at_rev hi, at_rev (nx_lt (by omega)), ← sgn_swap]
  congr 2
  unfold nx
  split <;> split <;> omega
theorem good_rev {l : List Pt} {s : Int} (h : good l s) : good l.reverse (-s) := by
  intro i hi j hj h1 h2
  rw [List.length_reverse] at hi hj h2
  rw [side_rev hi, at_rev hj]
  congr 1
  refine h _ (by omega) _ (by omega) (by unfold nx at *; split <;> (try split at h2) <;> omega) ?_
  unfold nx at *
  split <;> (try split) <;> (try split at h2) <;> omega
theorem isP_rev (l : List Pt) : isP l.reverse = isP l := by unfold isP; rw [List.length_reverse]
theorem valid_rev (l : List Pt) : validP l.reverse = validP l := by
  rw [Bool.eq_iff_iff, valid_iff, valid_iff, isP_rev]
  constructor
  · rintro ⟨h1, s, h2, h3⟩
    have := good_rev h3
    rw [List.reverse_reverse] at this
    exact ⟨h1, -s, by omega, this⟩
  · rintro ⟨h1, s, h2, h3⟩; exact ⟨h1, -s, by omega, good_rev h3⟩
theorem or_rev {l : List Pt} (h : validP l = true) : orP l.reverse = -orP l := by
  obtain ⟨h1, h2, _⟩ := valid_s h
  exact or_good (by rw [isP_rev]; exact h1) (good_rev h2)
theorem loc_rev {l : List Pt} (h : validP l = true) (p : Pt) : locP l.reverse p = locP l p := by
  have h1 := (valid_s h).1
  unfold locP
  rw [isP_rev, if_pos h1, if_pos h1, List.length_reverse]
  refine minL_congr fun x => ?_
  rw [mem_sides, mem_sides, or_rev h]
  constructor
  · rintro ⟨i, hi, e⟩
    rw [side_rev hi, Int.neg_mul_neg] at e
    exact ⟨_, by omega, e⟩
  · rintro ⟨i, hi, e⟩
    refine ⟨if i + 1 < l.length then l.length - 2 - i else l.length - 1, by split <;> omega, ?_⟩
    rw [side_rev (by split <;> omega), Int.neg_mul_neg, show l.length - 1 - nx l.length (if i + 1 < l.length then l.length - 2 - i else l.length - 1) = i by unfold nx; split <;> split <;> omega]
    exact e
/-- Vertices. -/
theorem sq_one {s : Int} (h : s = 1 ∨ s = -1) : s * s = 1 := by rcases h with rfl | rfl <;> rfl
theorem loc_vertex {l : List Pt} (h : validP l = true) {i : Nat} (hi : i < l.length) : locP l (at_ l i) = 0 := by
  obtain ⟨h1, h2, h3⟩ := valid_s h
  unfold locP
  rw [if_pos h1]
  refine minL_eq (by decide) (fun x hx => ?_) (.inr (mem_sides.2 ⟨i, hi, by unfold side; rw [sgn_first, Int.mul_zero]⟩))
  obtain ⟨e, he, rfl⟩ := mem_sides.1 hx
  by_cases e1 : i = e
  · subst e1; unfold side; rw [sgn_first]; omega
  · by_cases e2 : i = nx l.length e
    · rw [e2]; unfold side; rw [sgn_second]; omega
    · rw [h2 e he i hi e1 e2, sq_one h3]; decide
theorem tri_good {a b c : Pt} {s : Int} (h : sgnP a b c = s) : good [a, b, c] s := by
  intro i hi j hj h1 h2
  have hi : i = 0 ∨ i = 1 ∨ i = 2 := by simp at hi; omega
  have hj : j = 0 ∨ j = 1 ∨ j = 2 := by simp at hj; omega
  rcases hi with rfl | rfl | rfl <;> rcases hj with rfl | rfl | rfl <;> simp [nx] at h1 h2 ⊢
  · exact h
  · exact (sgn_cyc a b c).trans h
  · show sgnP c a b = s
    rw [← h, sgn_cyc, sgn_cyc]
theorem tri_valid {l : List Pt} (h : validP l = true) {i : Nat} (hi : i < l.length) :
    validP [at_ l i, at_ l (nx l.length i), at_ l (nx l.length (nx l.length i))] = true ∧ orP [at_ l i, at_ l (nx l.length i), at_ l (nx l.length (nx l.length i))] = orP l := by
  obtain ⟨h1, h2, h3⟩ := valid_s h
  have hn := (isP_iff l).1 h1
  have hs : sgnP (at_ l i) (at_ l (nx l.length i)) (at_ l (nx l.length (nx l.length i))) = orP l :=
    h2 i hi _ (nx_lt (by omega)) (by unfold nx; split <;> split <;> omega) (by unfold nx; split <;> split <;> omega)
  have hp : isP [at_ l i, at_ l (nx l.length i), at_ l (nx l.length (nx l.length i))] = true := rfl
  exact ⟨(valid_iff _).2 ⟨hp, orP l, by omega, tri_good hs⟩, or_good hp (tri_good hs)⟩
/-- Middles. -/
theorem sign_mid {s A B M : Int} (hs : s = 1 ∨ s = -1) (hm : 2 * M = A + B) (ha : A.sign = 0 ∨ A.sign = s) (hb : B.sign = 0 ∨ B.sign = s) : M.sign = if A.sign = 0 ∧ B.sign = 0 then 0 else s := by
  rcases Int.lt_trichotomy A 0 with h1 | h1 | h1
  · rw [Int.sign_eq_neg_one_of_neg h1] at *
    obtain rfl : s = -1 := by omega
    rcases Int.lt_trichotomy B 0 with h2 | h2 | h2
    · rw [Int.sign_eq_neg_one_of_neg h2, Int.sign_eq_neg_one_of_neg (a := M) (by omega)]; rfl
    · rw [h2, Int.sign_eq_neg_one_of_neg (a := M) (by omega)]; rfl
    · rw [Int.sign_eq_one_of_pos h2] at hb; omega
  · subst h1
    rcases Int.lt_trichotomy B 0 with h2 | h2 | h2
    · rw [Int.sign_eq_neg_one_of_neg h2] at hb ⊢
      obtain rfl : s = -1 := by omega
      rw [Int.sign_eq_neg_one_of_neg (a := M) (by omega)]; rfl
    · subst h2; obtain rfl : M = 0 := by omega
      rfl
    · rw [Int.sign_eq_one_of_pos h2] at hb ⊢
      obtain rfl : s = 1 := by omega
      rw [Int.sign_eq_one_of_pos (a := M) (by omega)]; rfl
  · rw [Int.sign_eq_one_of_pos h1] at *
    obtain rfl : s = 1 := by omega
    rcases Int.lt_trichotomy B 0 with h2 | h2 | h2
    · rw [Int.sign_eq_neg_one_of_neg h2] at hb; omega
    · rw [h2, Int.sign_eq_one_of_pos (a := M) (by omega)]; rfl
    · rw [Int.sign_eq_one_of_pos h2, Int.sign_eq_one_of_pos (a := M) (by omega)]; rfl
theorem side_vertex {l : List Pt} (h2 : good l (orP l)) {e i : Nat} (he : e < l.length) (hi : i < l.length) : side l e (at_ l i) = if i = e ∨ i = nx l.length e then 0 else orP l := by
  by_cases e1 : i = e
  · subst e1; unfold side; rw [sgn_first, if_pos (.inl rfl)]
  · by_cases e2 : i = nx l.length e
    · rw [if_pos (.inr e2), e2]; unfold side; rw [sgn_second]
    · rw [if_neg (by omega)]; exact h2 e he i hi e1 e2
/-- Whether two indices are neighbours, the first behind the second. -/
def nbr (n i j : Nat) : Bool := i == j + 1 || j == 0 && i == n - 1
theorem loc_middle {l : List Pt} (h : validP l = true) {i j : Nat} (hi : i < l.length) (hj : j < i) {m : Pt} (hx : 2 * m.x = (at_ l i).x + (at_ l j).x) (hy : 2 * m.y = (at_ l i).y + (at_ l j).y) :
    locP l m = if nbr l.length i j then 0 else 1 := by
  obtain ⟨h1, h2, h3⟩ := valid_s h
  have hn := (isP_iff l).1 h1
  have key : ∀ e, e < l.length → side l e m = if (i = e ∨ i = nx l.length e) ∧ (j = e ∨ j = nx l.length e) then 0 else orP l := fun e he => by
    have ka := side_vertex h2 he hi
    have kb := side_vertex h2 he (show j < l.length by omega)
    unfold side sgnP at ka kb ⊢
    have hm : 2 * detP (at_ l e) (at_ l (nx l.length e)) m = detP (at_ l e) (at_ l (nx l.length e)) (at_ l i) + detP (at_ l e) (at_ l (nx l.length e)) (at_ l j) := by unfold detP; grind
    rw [sign_mid h3 hm (by rw [ka]; split <;> simp) (by rw [kb]; split <;> simp), ka, kb]
    have hne : orP l ≠ 0 := by omega
    by_cases c1 : i = e ∨ i = nx l.length e <;> by_cases c2 : j = e ∨ j = nx l.length e <;> simp [c1, c2, hne]
  unfold locP
  rw [if_pos h1]
  by_cases hnb : nbr l.length i j = true
  · rw [if_pos hnb]
    unfold nbr at hnb
    simp only [Bool.or_eq_true, Bool.and_eq_true, beq_iff_eq] at hnb
    refine minL_eq (by decide) (fun x hx => ?_) (.inr (mem_sides.2 ⟨if i = j + 1 then j else i, by split <;> omega, ?_⟩))
    · obtain ⟨e, he, rfl⟩ := mem_sides.1 hx
      rw [key e he]
      split
      · omega
      · rw [sq_one h3]; decide
    · rw [key _ (by split <;> omega), if_pos, Int.mul_zero]
      unfold nx
      split <;> split <;> omega
  · rw [if_neg hnb]
    unfold nbr at hnb
    simp only [Bool.or_eq_true, Bool.and_eq_true, beq_iff_eq, not_or, not_and] at hnb
    refine minL_eq (by decide) (fun x hx => ?_) (.inl rfl)
    obtain ⟨e, he, rfl⟩ := mem_sides.1 hx
    rw [key e he, if_neg, sq_one h3]
    · decide
    · unfold nx
      split <;> omega
end Go.Proofs.YtokabljeekokmaaDoor
