/-
  More words for memory: append of a list of numbers onto a row of the call's own. No program is named here.
-/
import Derived.Test.YtpdmpmlieligoaaDoorMem2
namespace Go.Proofs.YtpdmpmlieligoaaDoor
open Go.RowKit

theorem addr_add0 (b off j : Nat) : (⟨b, off, none⟩ : Addr).add j = ⟨b, off + j, none⟩ := by
  unfold Addr.add; split
  · next h => subst h; rfl
  · rfl
/-- append of a list of numbers, not empty, onto a row of the call's own. -/
theorem wp_appL {P : Program} {w : World} {ops : Array Oper} {rest : List Oper} {o : Oper} {a : Act} {Q : Exit → Act → World → Prop} (hgd : o.guard = none) (s x : Operand) (t : TypeId)
    (ho : o.op = .call { callee := .builtin .append, args := #[s, x], argTypes := #[t, t] })
    (base : Nat) (e : TypeId) (k : IntKind) (i : TypeInfo) (z : Value) (ht : P.underlying t = some (.slice e)) (hi : P.info? e = some i) (hz : i.zero = some z) (hsize : i.size = 1) (hby : i.bytes = 8) (hzs : z.cells.size = 1)
    (v : Value) (os ds : List Int) (A : Option Addr) (n c : Nat) (S : Nat → Prop) (hs : a.eval s = v) (hown : OwnK w base e k v os) (hx : a.eval x = .slice A n c) (hn : n = ds.length) (hsl : SlR w S k A ds) (hne : 0 < ds.length)
    (hlen : os.length + ds.length ≤ 1000000000) (hbase : base ≤ w.heap.size)
    (h : ∀ v' w', OwnK w' base e k v' (os ++ ds) → Below base w w' → wpList P ops Q rest (a.put o.dst v') w') : wpList P ops Q (o :: rest) a w := by
  subst hn
  obtain ⟨b, off, rfl, _, hc⟩ := hsl hne
  refine wpList_append_own _ hgd s x t ho base e i z 1 8 ht hi hz hsize hby hzs (by decide) v os.length (os.map (Value.int k)) hs hown ⟨b, off, none⟩ ds.length c (ds.map (Value.int k)) hx (by simp) ?_ ?_
    (by unfold maxLen; omega) (by omega) hbase fun v' w' h1 h2 _ => h v' w' ?_ ?_
  · intro j u hj
    rw [addr_add0]
    rw [List.getElem?_map] at hj
    cases hd : ds[j]? with
    | none => rw [hd] at hj; cases hj
    | some d => rw [hd] at hj; injection hj with hj; subst hj; exact hc j d hd
  · intro u hu
    obtain ⟨d, _, rfl⟩ := List.mem_map.1 hu
    rfl
  · unfold OwnK
    rw [List.length_append, List.map_append]
    exact h1
  · exact (Below.refl base w).grown h2 hbase (fun g hg => (World.ownsRow.lt hown g hg).1)
end Go.Proofs.YtpdmpmlieligoaaDoor
