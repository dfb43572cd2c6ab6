/-
  copy between rows of elements of k cells, onto a row of one's own. No program is named here.
-/
import Derived.Test.YtokabljeekokmaaDoorRow
import Derived.Lib.Overlaps
import Derived.Lib.AppendZerosOnto
import Derived.Laws.IdiomCopy
import Derived.Laws.NewBlocks
import Derived.Laws.Externs
import Derived.OwnWalk
namespace Go.Proofs.YtokabljeekokmaaDoor
open Go.RowKit Go.Lib
set_option maxRecDepth 100000
set_option linter.unusedVariables false
set_option linter.unusedSimpArgs false

/-- copy of elements of k cells. -/
theorem run_copy_k {P : Program} (w : World) (dT sT ty elem : TypeId) (k b o dLen dCap : Nat) (a : Addr) (sLen sCap : Nat) (cs : List Value) (m : Nat)
    (hu : P.underlying dT = some (.slice elem)) (hs : (P.info? elem).map (·.size) = some k) (hm : m = Nat.min sLen dLen) (hn : cs.length = m * k)
    (hsrc : ∀ j v, cs[j]? = some v → w.cell? (a.add j) = some v) (hc : ∀ j, j < cs.length → (w.cell? ⟨b, o + j, none⟩).isSome = true) (hf : ∀ j, j < cs.length → w.frozen? ⟨b, o + j, none⟩ = false) (h1 : ∀ v ∈ cs, v.oneCell' = true) :
    (Builtin.copy_ #[dT, sT] ty #[.slice (some ⟨b, o, none⟩) dLen dCap, .slice (some a) sLen sCap]).run P w = .ok (goInt m) (w.setCells b o cs) := by
  have hl := run_loadCells_list (P := P) w a cs hsrc
  have hst := run_storeCells_cells (P := P) b o cs 0 w (by simpa using hc) (by simpa using hf) h1
  cases hq : P.info? elem with
  | none => simp [hq] at hs
  | some i =>
    have hi : i.size = k := by simpa [hq] using hs
    simp [Builtin.copy_, run_underlying hu, Builtin.lenOf, Builtin.firstCells, sizeOf, typeInfo, hq, hi, ← hm, ← hn, hl, hst]
/-- A list with other values from a place on. -/
def over {α : Type} : List α → Nat → List α → List α
  | l, _, [] => l
  | l, o, v :: r => over (l.set o v) (o + 1) r
theorem own_over {base g n c k : Nat} {t : TypeId} : ∀ (cs : List Value) (o : Nat) (w : World) (xs : List Value), w.ownsRow base t k (.slice (some ⟨g, 0, none⟩) n c) n xs → (w.setCells g o cs).ownsRow base t k (.slice (some ⟨g, 0, none⟩) n c) n (over xs o cs)
  | [], _, _, _, h => h
  | v :: r, o, w, xs, h => own_over r (o + 1) _ _ (h.stored o v).1
theorem below_setCells {B g : Nat} {w0 : World} (hg : B ≤ g) : ∀ (cs : List Value) (o : Nat) (w : World), Below B w0 w → Below B w0 (w.setCells g o cs)
  | [], _, _, h => h
  | v :: r, o, w, h => below_setCells hg r (o + 1) _ (Below.setCell h (p := ⟨g, o, none⟩) hg v)
theorem over_eq {α : Type} : ∀ (cs : List α) (o : Nat) (l : List α), o + cs.length ≤ l.length → over l o cs = l.take o ++ cs ++ l.drop (o + cs.length)
  | [], o, l, h => by simp [over]
  | v :: r, o, l, h => by
    simp only [List.length_cons] at h ⊢
    show over (l.set o v) (o + 1) r = _
    rw [over_eq r (o + 1) (l.set o v) (by simp; omega), List.take_succ_eq_append_getElem (by simp; omega), List.take_set_of_le (Nat.le_refl _), List.getElem_set_self, List.drop_set_of_lt (by omega), show o + 1 + r.length = o + (r.length + 1) by omega]
    simp
theorem over_all {α : Type} {cs l : List α} (h : cs.length ≤ l.length) : over l 0 cs = cs ++ l.drop cs.length := by rw [over_eq cs 0 l (by omega)]; simp
/-- copy onto a row of one's own, from whatever row. -/
theorem copy_own {P : Program} {t e : TypeId} {k : Nat} {α : Type} {C : α → List Value} (E : ElemT P t e k C) (w : World) (base g N cap : Nat) (xs : List Value) (hrow : w.ownsRow base e k (.slice (some ⟨g, 0, none⟩) N cap) N xs)
    (A : Option Addr) (c n : Nat) (l : List α) (T : Nat → Prop) (ha : RowR w T k C A l) (hn : n = l.length) (hN : n ≤ N) :
    ∃ W2, (∀ ty, (Builtin.copy_ #[t, t] ty #[.slice (some ⟨g, 0, none⟩) N cap, .slice A n c]).run P w = .ok (goInt n) W2) ∧ W2.ownsRow base e k (.slice (some ⟨g, 0, none⟩) N cap) N (over xs 0 (l.flatMap C)) ∧ ∀ b, b ≤ g → Below b w W2 := by
  obtain ⟨i0, z, hi, hz0, hz1, hz2, hz3⟩ := E.info
  have hlx : xs.length = N * k := hrow.1
  have hlf : (l.flatMap C).length = n * k := by rw [flatC_len E.len, hn]
  have hle : n * k ≤ N * k := Nat.mul_le_mul_right _ hN
  cases A with
  | none =>
    obtain rfl := ha.nilOf
    subst hn
    refine ⟨w, fun ty => ?_, hrow, fun b _ => Below.refl _ _⟩
    simp [Builtin.copy_, run_underlying E.sl, Builtin.lenOf, Builtin.firstCells, sizeOf, typeInfo, hi, go_sem]
  | some ad =>
    refine ⟨_, fun ty => run_copy_k w t t ty e k g 0 N cap ad n c (l.flatMap C) n E.sl (by rw [hi]; simp [hz1]) (Nat.min_eq_left hN).symm hlf (fun j v hj => ha.cells_ E.len E.pos j v hj) (fun j hj => ?_) (fun j hj => hrow.frozenAt _) (E.flat1 l), own_over _ 0 _ _ hrow, fun b hb => below_setCells hb _ _ _ (Below.refl _ _)⟩
    rw [hrow.cellAt _ (by omega), List.getElem?_eq_getElem (by omega)]; rfl
/-- Zero elements of two cells. -/
theorem made_two {α : Type} {C : α → List Value} (hC : ∀ x, (C x).length = 2) (z0 : α) (u v : Value) (hz : C z0 = [u, v]) (N : Nat) : (madeCells #[u, v] (N * 2)).toList = (List.replicate N z0).flatMap C := by
  apply List.ext_getElem?
  intro j
  have hl : ((List.replicate N z0).flatMap C).length = N * 2 := by rw [flatC_len hC, List.length_replicate]
  by_cases hj : j < N * 2
  · have hr := flatC_at hC (List.replicate N z0) (j / 2) z0 (by rw [List.getElem?_replicate, if_pos (by omega)]) (j % 2) (Nat.mod_lt _ (by decide))
    rw [show j / 2 * 2 + j % 2 = j by omega, hz] at hr
    rw [hr]
    have h2 : j % 2 = 0 ∨ j % 2 = 1 := by omega
    rcases h2 with h2 | h2 <;> simp [madeCells, hj, h2]
  · rw [List.getElem?_eq_none (by simp [madeCells]; omega), List.getElem?_eq_none (by omega)]
end Go.Proofs.YtokabljeekokmaaDoor
