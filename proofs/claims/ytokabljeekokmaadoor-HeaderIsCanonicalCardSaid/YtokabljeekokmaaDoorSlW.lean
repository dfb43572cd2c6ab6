/-
  Copies, comparisons and appends of lists of words.
-/
import Derived.Test.YtokabljeekokmaaDoorBox
import Derived.Test.YtokabljeekokmaaDoorWords
import Derived.BigQuiet
import Derived.Deep.QuietTactic
import Derived.Lib.Hide
import Derived.Lib.SliceRun
import Derived.Laws.AppendOwnNone
import Derived.RangeFuncBox
namespace Go.Proofs.YtokabljeekokmaaDoor
open Go.RowKit
set_option maxRecDepth 100000
set_option linter.unusedVariables false
set_option linter.unusedSimpArgs false

theorem one_cells (k : IntKind) (l : List Int) : ∀ u ∈ l.map (Value.int k), u.oneCell' = true := fun u hu => by
  obtain ⟨d, _, rfl⟩ := List.mem_map.1 hu
  rfl
theorem SlR.nilOf {w : World} {S : Nat → Prop} {k : IntKind} {ds : List Int} (h : SlR w S k none ds) : ds = [] := by
  rcases ds with _ | ⟨d, ds⟩
  · rfl
  · obtain ⟨b, o, e, _⟩ := h (by simp); cases e
theorem take_snoc_eqI {l m : List Int} {k : Nat} (h : l.take k = m.take k) (h1 : k < l.length) (h2 : k < m.length) (he : l[k] = m[k]) : l.take (k + 1) = m.take (k + 1) := by rw [List.take_succ_eq_append_getElem h1, List.take_succ_eq_append_getElem h2, h, he]
theorem SlR.cells_ {w : World} {S : Nat → Prop} {k : IntKind} {ad : Addr} {xs : List Int} (h : SlR w S k (some ad) xs) (j : Nat) (u : Value) (hj : (xs.map (Value.int k))[j]? = some u) : w.cell? (ad.add j) = some u := by
  rw [List.getElem?_map] at hj
  cases hd : xs[j]? with
  | none => rw [hd] at hj; cases hj
  | some d =>
    rw [hd] at hj; injection hj with hj; subst hj
    obtain ⟨b, o, e, _, hc⟩ := h (by have := (List.getElem?_eq_some_iff.1 hd).1; omega)
    injection e with e
    subst e
    rw [addr_add0]; exact hc j d hd
theorem OwnK.keep_ {w w' : World} {base : Nat} {e : TypeId} {k : IntKind} {v : Value} {os : List Int} (h : OwnK w base e k v os) (hk : ∀ g, v.ownBlock = some g → w'.heap[g]? = w.heap[g]?) : OwnK w' base e k v os := by
  obtain ⟨hl, h⟩ := h
  refine ⟨hl, ?_⟩
  rcases h with h | ⟨g, cap, cur, rfl, hb, hg, rest⟩
  · exact .inl h
  · exact .inr ⟨g, cap, cur, rfl, hb, (hk g rfl).trans hg, rest⟩
theorem OwnK.lt_ {w : World} {base : Nat} {e : TypeId} {k : IntKind} {v : Value} {os : List Int} (h : OwnK w base e k v os) : ∀ g, v.ownBlock = some g → base ≤ g ∧ g < w.heap.size := World.ownsRow.lt h
end Go.Proofs.YtokabljeekokmaaDoor
