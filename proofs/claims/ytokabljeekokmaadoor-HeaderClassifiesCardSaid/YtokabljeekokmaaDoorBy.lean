/-
  Rows of bytes: append, literals, comparisons.
-/
import Derived.Test.YtokabljeekokmaaDoorHdr
import Derived.Test.YtokabljeekokmaaDoorSlW
import Derived.Lib.SlBytesRow
import Derived.Laws.BytesArg
namespace Go.Proofs.YtokabljeekokmaaDoor
open Go.RowKit
set_option maxRecDepth 100000
set_option linter.unusedVariables false
set_option linter.unusedSimpArgs false

theorem infoB : (Tryd.prog.info? 5).map (fun i => (i.zero, i.size, i.bytes)) = some (some (.int .u8 0), 1, 1) := by kernel_rfl
theorem OwnK.base {w : World} {base b2 : Nat} {e : TypeId} {k : IntKind} {v : Value} {os : List Int} (h : OwnK w base e k v os) (hb : b2 ≤ base) : OwnK w b2 e k v os := by
  unfold OwnK at h ⊢
  refine ⟨h.1, ?_⟩
  rcases h.2 with ⟨h1, h2⟩ | ⟨g, cap, cur, h1, h2, h3⟩
  · exact .inl ⟨h1, h2⟩
  · exact .inr ⟨g, cap, cur, h1, Nat.le_trans hb h2, h3⟩
/-- A literal list of bytes, new. -/
theorem own_lit {w : World} (ns : List Int) (hm : ns.length ≤ 1000000) (B : Nat) (hB : B ≤ w.heap.size) : OwnK (w.alloc (.cells (ns.map (Value.int .u8)).toArray 5)) B 5 .u8 (.slice (some ⟨w.heap.size, 0, none⟩) ns.length ns.length) ns := by
  unfold OwnK
  refine ⟨by simp, .inr ⟨w.heap.size, ns.length, (ns.map (Value.int .u8)).toArray, rfl, hB, heap_alloc_new w _, Nat.le_refl _, by unfold maxLen; omega, by simp, by simp only [List.size_toArray, Nat.mul_one]; exact List.take_of_length_le (by simp)⟩⟩
/-- append of bytes onto a row of the call's own. -/
theorem wp_app_b {ops : Array Oper} {rest : List Oper} {o : Oper} {a : Act} {Q : Exit → Act → World → Prop} {w : World} (hgd : o.guard = none) (s x : Operand)
    (ho : o.op = .call { callee := .builtin .append, args := #[s, x], argTypes := #[22, 22] }) (base : Nat) (v : Value) (ys : List Int) (hs : a.eval s = v) (hown : OwnK w base 5 .u8 v ys)
    (A : Option Addr) (n c : Nat) (xs : List Int) (S : Nat → Prop) (hx : a.eval x = .slice A n c) (hn : n = xs.length) (hl : SlR w S .u8 A xs) (hc : A = none → c = 0) (h1 : ys.length + xs.length ≤ 140737488355328) (hbase : base ≤ w.heap.size)
    (h : ∀ v' w', OwnK w' base 5 .u8 v' (ys ++ xs) → Below base w w' → wpList Tryd.prog ops Q rest (a.put o.dst v') w') : wpList Tryd.prog ops Q (o :: rest) a w := by
  subst hn
  obtain ⟨i0, hi, hz0, hz1, hz2⟩ := info_parts infoB
  have key : ∀ v' w', w'.ownsRow base 5 1 v' (ys.length + xs.length) (ys.map (Value.int .u8) ++ xs.map (Value.int .u8)) → OwnK w' base 5 .u8 v' (ys ++ xs) := fun v' w' hr => by
    unfold OwnK; rw [List.length_append, List.map_append]; exact hr
  cases A with
  | some ad => exact wpList_append_own _ hgd s x 22 ho base 5 i0 (.int .u8 0) 1 1 Tryd.underlying22 hi hz0 hz1 hz2 rfl (by decide) v ys.length (ys.map (Value.int .u8)) hs hown ad xs.length c (xs.map (Value.int .u8)) hx (by simp) (fun j u hj => hl.cells_ j u hj) (one_cells _ _) (by unfold maxLen; omega) (by omega) hbase fun v' w' k1 k2 _ => h v' w' (key v' w' k1) ((Below.refl _ _).grown k2 hbase (fun g hg => (World.ownsRow.lt hown g hg).1))
  | none =>
    obtain rfl := hl.nilOf
    obtain rfl := hc rfl
    exact wpList_append_own_none hgd s x 22 ho base 5 i0 1 Tryd.underlying22 hi v ys.length (ys.map (Value.int .u8)) hs hown hx (h v w (by simpa using hown) (Below.refl _ _))
/-- append of a literal list of bytes onto a row of the call's own. -/
theorem wp_app_lit {ops : Array Oper} {rest : List Oper} {o : Oper} {a : Act} {Q : Exit → Act → World → Prop} {w : World} (hgd : o.guard = none) (s x : Operand)
    (ho : o.op = .call { callee := .builtin .append, args := #[s, x], argTypes := #[22, 22] }) (base : Nat) (v : Value) (ys : List Int) (hs : a.eval s = v) (hown : OwnK w base 5 .u8 v ys)
    (xs : List Int) (n c : Nat) (hx : a.eval x = .slice (some ⟨w.heap.size, 0, none⟩) n c) (hn : n = xs.length) (h1 : ys.length + xs.length ≤ 140737488355328) (hbase : base ≤ w.heap.size)
    (h : ∀ v' w', OwnK w' base 5 .u8 v' (ys ++ xs) → Below base w w' → wpList Tryd.prog ops Q rest (a.put o.dst v') w') : wpList Tryd.prog ops Q (o :: rest) a (w.alloc (.cells (xs.map (Value.int .u8)).toArray 5)) := by
  have hb : Below w.heap.size w (w.alloc (.cells (xs.map (Value.int .u8)).toArray 5)) := (Below.refl _ _).alloc (Nat.le_refl _) _
  refine wp_app_b hgd s x ho base v ys hs (World.ownsRow.alloc hown _) (some ⟨w.heap.size, 0, none⟩) n c xs (fun _ => True) hx hn ?_ (by simp) h1 (by simp; omega) fun v' w' k1 k2 => h v' w' k1 ((hb.mono hbase).trans k2)
  intro hl
  refine ⟨w.heap.size, 0, rfl, trivial, fun j d hd => ?_⟩
  have h2 := heap_alloc_new w (.cells (xs.map (Value.int .u8)).toArray 5)
  have h3 : (xs.map (Value.int .u8))[j]? = some (.int .u8 d) := by rw [List.getElem?_map, hd]; rfl
  rw [Nat.zero_add]
  unfold World.cell?
  rw [h2]
  simpa using h3
end Go.Proofs.YtokabljeekokmaaDoor
