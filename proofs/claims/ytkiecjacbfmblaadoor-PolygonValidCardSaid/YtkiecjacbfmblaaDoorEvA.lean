/-
  Appends of events; slices.Grow and slices.Concat of events.
-/
import Derived.Test.YtkiecjacbfmblaaDoorTapeC
import Derived.Laws.AppendOwnNone
import Derived.Lib.AppendZeros
namespace Go.Proofs.YtkiecjacbfmblaaDoor
open Go.RowKit Go.Maps
set_option maxRecDepth 100000
set_option linter.unusedVariables false
set_option linter.unusedSimpArgs false

theorem nil_evs {w : World} {T : Nat → Prop} {l : List Ev} (h : EvsR w T none l) : l = [] := by
  rcases l with _ | ⟨e, l⟩
  · rfl
  · obtain ⟨b, o, e, _⟩ := h (by simp); cases e
/-- A row of one's own, empty. -/
theorem row_new (w : World) : (w.alloc (.cells #[] 65)).ownsRow w.heap.size 65 3 (.slice (some ⟨w.heap.size, 0, none⟩) 0 0) 0 [] := World.ownsRow_made w #[] 0 (Nat.le_refl _) (by decide) rfl
/-- append of events onto a row of one's own, at the walk's operation: whatever comes, nil too. -/
theorem wp_app_ev {ops : Array Oper} {rest : List Oper} {o : Oper} {a : Act} {Q : Exit → Act → World → Prop} {w : World} (hgd : o.guard = none) (s x : Operand)
    (ho : o.op = .call { callee := .builtin .append, args := #[s, x], argTypes := #[38, 38] }) (base : Nat) (v : Value) (n : Nat) (xs : List Value) (hs : a.eval s = v) (hown : w.ownsRow base 65 3 v n xs)
    (A : Option Addr) (c : Nat) (l : List Ev) (T : Nat → Prop) (hx : a.eval x = .slice A l.length c) (hl : EvsR w T A l) (hc : A = none → c = 0) (h1 : n + l.length ≤ 1000000) (hbase : base ≤ w.heap.size)
    (h : ∀ v' w', w'.ownsRow base 65 3 v' (n + l.length) (xs ++ l.flatMap evC) → w.grownBy w' v.ownBlock → wpList Tryd.prog ops Q rest (a.put o.dst v') w') : wpList Tryd.prog ops Q (o :: rest) a w := by
  obtain ⟨i0, hi, hz0, hz1, hz2⟩ := info_parts infoEv
  cases A with
  | some ad => exact wpList_append_own _ hgd s x 38 ho base 65 i0 (.agg #[.int .i64 0, .int .i64 0, .int .i64 0]) 3 24 Tryd.underlying38 hi hz0 hz1 hz2 rfl (by decide) v n xs hs hown ad l.length c (l.flatMap evC) hx (flat_len l) (fun j u hj => hl.cells_ j u hj) (flat_cell l) (by unfold maxLen; omega) (by omega) hbase (fun v' w' h1 h2 _ => h v' w' h1 h2)
  | none =>
    obtain rfl := nil_evs hl
    obtain rfl := hc rfl
    exact wpList_append_own_none hgd s x 38 ho base 65 i0 3 Tryd.underlying38 hi v n xs hs hown hx (h v w (by simpa using hown) (World.grownBy.refl w _))
/-- A slice of slices of events, in memory. -/
structure EvLs (w : World) (b o : Nat) (Ls : List (Option Addr × Nat × List Ev)) : Prop where
  cell : ∀ j p, Ls[j]? = some p → w.cell? ⟨b, o + j, none⟩ = some (.slice p.1 p.2.2.length p.2.1)
  evs : ∀ p ∈ Ls, EvsR w (fun _ => True) p.1 p.2.2 ∧ (p.1 = none → p.2.1 = 0)
theorem EvLs.next {w w' : World} {b o : Nat} {Ls : List (Option Addr × Nat × List Ev)} (h : EvLs w b o Ls) (hb : Below w.heap.size w w') : EvLs w' b o Ls :=
  ⟨fun j p hp => (hb.cell (p := ⟨b, o + j, none⟩) (lt_of_cell (h.cell j p hp))).trans (h.cell j p hp), fun p hp => ⟨(h.evs p hp).1.next hb, (h.evs p hp).2⟩⟩
def totE (Ls : List (Option Addr × Nat × List Ev)) : List Ev := Ls.flatMap fun p => p.2.2
theorem totE_snoc (Ls : List (Option Addr × Nat × List Ev)) (k : Nat) (h : k < Ls.length) : totE (Ls.take (k + 1)) = totE (Ls.take k) ++ Ls[k].2.2 := by
  unfold totE; rw [List.take_succ_eq_append_getElem h, List.flatMap_append]; simp
theorem totE_le (Ls : List (Option Addr × Nat × List Ev)) (k : Nat) : (totE (Ls.take k)).length ≤ (totE Ls).length := by
  have : totE Ls = totE (Ls.take k) ++ totE (Ls.drop k) := by unfold totE; rw [← List.flatMap_append, List.take_append_drop]
  rw [this, List.length_append]; omega
end Go.Proofs.YtkiecjacbfmblaaDoor
