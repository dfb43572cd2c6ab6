/-
  What package array reckons round by round, in plain lists; contracts of package mask in the words of regions.
-/
import Derived.Test.YtknldcogmbbgjaaDoorArrC
import Derived.Test.YtknldcogmbbgjaaDoorTail
import Derived.Test.YtknldcogmbbgjaaDoorArr11
namespace Go.Proofs.YtknldcogmbbgjaaDoor
open Go.RowKit Go.Maps Go.Shelf
set_option maxRecDepth 100000
set_option linter.unusedVariables false
set_option linter.unusedSimpArgs false

theorem equal_b (a b : Int) (ha : U a) (hb : U b) (w : World) (hw : Wts w) : Calls Tryd.prog 31 #[.int .u64 a, .int .u64 b] w fun e w' => e = .returned (.int .u64 (mk (decide (a = b)))) ∧ Below w.heap.size w w' :=
  (equal_any a b ha hb w hw).mono fun e w' ⟨h1, n, h2⟩ => ⟨h1, h2 ▸ below_drewN' (Below.refl _ _) n⟩
theorem select_b (m a b : Int) (w : World) : Calls Tryd.prog 30 #[.int .u64 m, .int .u64 a, .int .u64 b] w fun e w' => e = .returned (.int .u64 (sel m a b)) ∧ Below w.heap.size w w' :=
  (select_any m a b w).mono fun e w' ⟨h1, h2⟩ => ⟨h1, h2 ▸ Below.refl _ _⟩
theorem bit_b (a : Int) (ha : U a) (w : World) : Calls Tryd.prog 32 #[.int .u64 a] w fun e w' => e = .returned (.int .u64 (a % 2)) ∧ Below w.heap.size w w' :=
  (bit_any a ha w).mono fun e w' ⟨h1, h2⟩ => ⟨h1, h2 ▸ Below.refl _ _⟩
theorem Us_dgt {xs : List Int} (h : Us xs) (k : Nat) : U (dgt xs k) := Us.dgt h k

theorem moved_setc {S : Nat → Prop} {W : World} {b o : Nat} {v : Value} (h : S b) : Moved S W (W.setCell ⟨b, o, none⟩ v) :=
  ⟨rfl, rfl, rfl, by simp, fun g _ hS => Below.heap_setCell _ _ _ _ (fun e => hS (by rw [e]; exact h))⟩
theorem tape_setc {w W : World} {T : Nat → Prop} {B : Nat} {v : Value} {l : List Ev} (h : TapeO W (Star w T B) v l) {b o : Nat} (h1 : ¬ T b) (h2 : b < B) (x : Value) : TapeO (W.setCell ⟨b, o, none⟩ x) (Star w T B) v l :=
  h.keep fun c hc _ => Below.heap_setCell _ _ _ _ (fun e => by subst e; rcases hc with hc | hc; exact h1 hc.1; omega)

/-! ### Read -/
def selR (xs : List Int) (i : Int) : Nat → Int
  | 0 => 0
  | k + 1 => sel (mk (decide (i = k))) (dgt xs k) (selR xs i k)
theorem selR_at {xs : List Int} {i : Int} (hU : Us xs) (hi : U i) : ∀ k, U (selR xs i k) ∧ selR xs i k = if i < k then dgt xs i.toNat else 0
  | 0 => ⟨⟨by simp [selR], by simp [selR]⟩, by rw [if_neg (by have := hi.1; omega)]; rfl⟩
  | k + 1 => by
    obtain ⟨h1, h2⟩ := selR_at hU hi k
    have e : selR xs i (k + 1) = if i = k then dgt xs k else selR xs i k := by
      show sel (mk (decide (i = k))) (dgt xs k) (selR xs i k) = _
      rw [sel_mk (hU.dgt k) h1]
      by_cases h : i = k <;> simp [h]
    have hi0 := hi.1
    rw [e]
    by_cases h : i = k
    · rw [if_pos h]
      refine ⟨hU.dgt k, ?_⟩
      rw [if_pos (by omega), h]; rfl
    · rw [if_neg h]
      refine ⟨h1, ?_⟩
      rw [h2]
      by_cases h3 : i < (k : Int)
      · rw [if_pos h3, if_pos (by omega)]
      · rw [if_neg h3, if_neg (by omega)]
theorem selR_done {xs : List Int} {i : Int} (hU : Us xs) (hi : U i) : selR xs i xs.length = rdL xs i := (selR_at hU hi _).2

/-! ### Count -/
def cnR (xs : List Int) : Nat → Int
  | 0 => 0
  | k + 1 => IntKind.u64.wrap (cnR xs k + dgt xs k % 2)
theorem cnR_at {xs : List Int} (hl : xs.length ≤ 1000000) : ∀ k, k ≤ xs.length → cnR xs k = (cntO (xs.take k) : Int)
  | 0, _ => by simp [cnR, cntO]
  | k + 1, h => by
    show IntKind.u64.wrap (cnR xs k + dgt xs k % 2) = _
    rw [cnR_at hl k (by omega), cntO_snoc xs k (by omega), dgt_lt (show k < xs.length by omega)]
    have h1 := cntO_le (xs.take k)
    rw [List.length_take] at h1
    exact wrap_u64 (by omega) (by omega)
theorem cnR_done {xs : List Int} (hl : xs.length ≤ 1000000) : cnR xs xs.length = (cntO xs : Int) := by rw [cnR_at hl _ (Nat.le_refl _), List.take_length]

/-! ### First -/
def fdR (xs : List Int) : Nat → Int
  | 0 => 0
  | k + 1 => bits .or .u64 (fdR xs k) (dgt xs k % 2)
def bfR (xs : List Int) : Nat → Int
  | 0 => 0
  | k + 1 => IntKind.u64.wrap (bfR xs k + IntKind.u64.wrap (1 - fdR xs (k + 1)))
theorem fdR_at {xs : List Int} (hl : xs.length ≤ 1000000) : ∀ k, k ≤ xs.length →
    (fdR xs k = 0 ∧ bfR xs k = k ∧ ∀ j, j < k → dgt xs j % 2 = 0) ∨ (fdR xs k = 1 ∧ bfR xs k = (fstO xs : Int))
  | 0, _ => .inl ⟨rfl, rfl, fun j h => absurd h (Nat.not_lt_zero j)⟩
  | k + 1, h => by
    have h2 : dgt xs k % 2 = 0 ∨ dgt xs k % 2 = 1 := by omega
    have e1 : fdR xs (k + 1) = bits .or .u64 (fdR xs k) (dgt xs k % 2) := rfl
    have e2 : bfR xs (k + 1) = IntKind.u64.wrap (bfR xs k + IntKind.u64.wrap (1 - fdR xs (k + 1))) := rfl
    rcases fdR_at hl k (by omega) with ⟨h3, h4, h5⟩ | ⟨h3, h4⟩
    · rcases h2 with h2 | h2
      · rw [h3, h2] at e1
        have e1' : fdR xs (k + 1) = 0 := e1
        rw [e1', h4] at e2
        refine .inl ⟨e1', ?_, fun j hj => ?_⟩
        · rw [e2, show IntKind.u64.wrap ((1 : Int) - 0) = 1 from rfl, wrap_u64 (by omega) (by omega)]; omega
        · by_cases e : j = k
          · rw [e]; exact h2
          · exact h5 j (by omega)
      · rw [h3, h2] at e1
        have e1' : fdR xs (k + 1) = 1 := e1
        rw [e1', h4] at e2
        refine .inr ⟨e1', ?_⟩
        rw [e2, show IntKind.u64.wrap ((1 : Int) - 1) = 0 from rfl, wrap_u64 (by omega) (by omega), fstO_at h5 (by omega) h2]; omega
    · have e1' : fdR xs (k + 1) = 1 := by rw [e1, h3]; rcases h2 with h2 | h2 <;> rw [h2] <;> rfl
      rw [e1', h4] at e2
      have hf : fstO xs ≤ xs.length := by unfold fstO; exact List.findIdx_le_length
      refine .inr ⟨e1', ?_⟩
      rw [e2, show IntKind.u64.wrap ((1 : Int) - 1) = 0 from rfl, wrap_u64 (by omega) (by omega)]; omega
theorem bfR_done {xs : List Int} (hl : xs.length ≤ 1000000) : bfR xs xs.length = (fstO xs : Int) := by
  rcases fdR_at hl _ (Nat.le_refl _) with ⟨_, h, h2⟩ | ⟨_, h⟩
  · rw [h, fstO_none h2]
  · exact h

/-! ### All and Some -/
def andL (xs : List Int) : Int := xs.foldl (fun m x => bits .and .u64 m x) 18446744073709551615
def orL (xs : List Int) : Int := xs.foldl (fun m x => bits .or .u64 m x) 0
def anR (xs : List Int) : Nat → Int
  | 0 => 18446744073709551615
  | k + 1 => bits .and .u64 (anR xs k) (dgt xs k)
def orR (xs : List Int) : Nat → Int
  | 0 => 0
  | k + 1 => bits .or .u64 (orR xs k) (dgt xs k)
theorem anR_at {xs : List Int} : ∀ k, k ≤ xs.length → anR xs k = andL (xs.take k)
  | 0, _ => rfl
  | k + 1, h => by
    show bits .and .u64 (anR xs k) (dgt xs k) = _
    rw [anR_at k (by omega), dgt_lt (show k < xs.length by omega), List.take_succ_eq_append_getElem (by omega)]
    simp only [andL, List.foldl_append, List.foldl_cons, List.foldl_nil]
theorem orR_at {xs : List Int} : ∀ k, k ≤ xs.length → orR xs k = orL (xs.take k)
  | 0, _ => rfl
  | k + 1, h => by
    show bits .or .u64 (orR xs k) (dgt xs k) = _
    rw [orR_at k (by omega), dgt_lt (show k < xs.length by omega), List.take_succ_eq_append_getElem (by omega)]
    simp only [orL, List.foldl_append, List.foldl_cons, List.foldl_nil]
theorem anR_done (xs : List Int) : anR xs xs.length = andL xs := by rw [anR_at _ (Nat.le_refl _), List.take_length]
theorem orR_done (xs : List Int) : orR xs xs.length = orL xs := by rw [orR_at _ (Nat.le_refl _), List.take_length]

/-! ### Write -/
def wrR (xs : List Int) (i x : Int) : Nat → List Int
  | 0 => xs
  | k + 1 => (wrR xs i x k).set k (sel (mk (decide (i = k))) x (dgt xs k))
theorem wrR_len (xs : List Int) (i x : Int) : ∀ k, (wrR xs i x k).length = xs.length
  | 0 => rfl
  | k + 1 => by show ((wrR xs i x k).set k _).length = _; rw [List.length_set, wrR_len xs i x k]
theorem wrR_behind (xs : List Int) (i x : Int) : ∀ k j, k ≤ j → dgt (wrR xs i x k) j = dgt xs j
  | 0, _, _ => rfl
  | k + 1, j, h => by
    show dgt ((wrR xs i x k).set k _) j = _
    rw [← wrR_behind xs i x k j (by omega)]
    unfold dgt
    rw [List.getD_eq_getElem?_getD, List.getElem?_set_ne (by omega), ← List.getD_eq_getElem?_getD]
theorem wrR_at {xs : List Int} {i x : Int} (hU : Us xs) (hi : U i) (hx : U x) : ∀ k, k ≤ xs.length → wrR xs i x k = if i < k then xs.set i.toNat x else xs
  | 0, _ => by rw [if_neg (by have := hi.1; omega)]; rfl
  | k + 1, h => by
    have hi0 := hi.1
    have e0 : wrR xs i x (k + 1) = (wrR xs i x k).set k (sel (mk (decide (i = k))) x (dgt xs k)) := rfl
    have hk := wrR_at hU hi hx k (by omega)
    rw [e0, hk]
    by_cases h1 : i = k
    · have e1 : sel (mk (decide (i = k))) x (dgt xs k) = x := by rw [decide_eq_true h1]; exact sel_true hx (hU.dgt k)
      rw [e1, if_neg (show ¬ i < (k : Int) by omega), if_pos (show i < ((k + 1 : Nat) : Int) by omega), h1]
      simp
    · have e1 : sel (mk (decide (i = k))) x (dgt xs k) = dgt xs k := by rw [decide_eq_false h1]; exact sel_false hx (hU.dgt k)
      rw [e1]
      by_cases h3 : i < (k : Int)
      · rw [if_pos h3, if_pos (show i < ((k + 1 : Nat) : Int) by omega)]
        apply List.ext_getElem?
        intro j
        by_cases hj : k = j
        · subst hj
          rw [List.getElem?_set_self (by simp; omega), List.getElem?_set_ne (by omega), dgt_lt (by omega), List.getElem?_eq_getElem (by omega)]
        · rw [List.getElem?_set_ne hj]
      · rw [if_neg h3, if_neg (show ¬ i < ((k + 1 : Nat) : Int) by omega)]
        apply List.ext_getElem?
        intro j
        by_cases hj : k = j
        · subst hj
          rw [List.getElem?_set_self (by omega), dgt_lt (by omega), List.getElem?_eq_getElem (by omega)]
        · rw [List.getElem?_set_ne hj]
theorem wrR_done {xs : List Int} {i x : Int} (hU : Us xs) (hi : U i) (hx : U x) : wrR xs i x xs.length = wrL xs i x := wrR_at hU hi hx _ (Nat.le_refl _)
end Go.Proofs.YtknldcogmbbgjaaDoor
