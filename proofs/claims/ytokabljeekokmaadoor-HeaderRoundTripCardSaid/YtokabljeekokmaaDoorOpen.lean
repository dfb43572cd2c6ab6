/-
  Opening slices that came in, whatever the elements are. No program is named here.
-/
import Derived.Test.YtokabljeekokmaaDoorCardKit
import Derived.Deep.Slices
import Derived.Deep.Strs
namespace Go.Proofs.YtokabljeekokmaaDoor
open Go.RowKit Go.ChangeShapes Go.WideShapes
set_option maxRecDepth 100000
set_option linter.unusedVariables false
set_option linter.unusedSimpArgs false

/-- Elements of k cells each, in memory. -/
def RowR {α : Type} (w : World) (S : Nat → Prop) (k : Nat) (C : α → List Value) (A : Option Addr) (l : List α) : Prop :=
  0 < l.length → ∃ b o, A = some ⟨b, o, none⟩ ∧ S b ∧ ∀ j x, l[j]? = some x → ∀ q u, (C x)[q]? = some u → w.cell? ⟨b, o + (j * k + q), none⟩ = some u
section
variable {H : Type} {enc : TypeId × Value → H} {P : Program} {W : World} {base : Nat} {held : Bool}
/-- A slice, by its cells. -/
theorem row_cells {α : Type} {t e : TypeId} {k n : Nat} {cs : List Value} {y : DataW H × List MemPlace} (C : α → List Value) (Wf : α → Prop) (ht : P.underlying t = some (.slice e)) (hc : P.cellsOf e = k) (hk : 0 < k)
    (hE : ∀ n cs y, DataW.trod enc P W base (fun _ => true) held n e cs = some y → ∃ x, cs = C x ∧ Wf x) (h : DataW.trod enc P W base (fun _ => true) held n t cs = some y) :
    ∃ (A : Option Addr) (c : Nat) (l : List α), cs = [.slice A l.length c] ∧ RowR W (fun _ => True) k C A l ∧ (∀ x ∈ l, Wf x) ∧ l.length ≤ c ∧ c ≤ maxLen ∧ (A = none → c = 0) := by
  rcases Go.Deep.open_slice ht h with ⟨hcs, _⟩ | ⟨a, len, cap, m, n', D, Pl, hcs, _, hl, hm, hmm, _, hi⟩
  · exact ⟨none, 0, [], hcs, fun h => absurd h (by simp), (fun x h => by cases h), Nat.le_refl _, Nat.zero_le _, fun _ => rfl⟩
  · have hmm : m = cap := by simpa using hmm
    have key : ∀ i, i < len → ∃ x : α, (∀ q u, (C x)[q]? = some u → W.cell? (a.add (i * k + q)) = some u) ∧ Wf x := fun i hil => by
      obtain ⟨cs', h1, h2⟩ := hi i (by omega)
      obtain ⟨x, rfl, hw⟩ := hE _ _ _ h2
      rw [hc] at h1
      obtain ⟨_, hlen, hat⟩ := World.cells?_some h1
      refine ⟨x, fun q u hq => ?_, hw⟩
      have hqk : q < k := by rw [← hlen]; exact (List.getElem?_eq_some_iff.1 hq).1
      have := hat q hqk
      rw [hq] at this
      rw [← Go.Deep.add_add, this]
    by_cases h0 : 0 < len
    · obtain ⟨x0, _⟩ := key 0 h0
      have : Inhabited α := ⟨x0⟩
      obtain ⟨f, hf⟩ := Go.Deep.choose_lt key
      obtain ⟨cs', h1, h2⟩ := hi 0 (by omega)
      rw [hc] at h1
      obtain ⟨_, hlen, hat⟩ := World.cells?_some h1
      obtain ⟨b, off, spot⟩ := a
      have hspot : spot = none := by
        have := hat 0 hk
        rw [List.getElem?_eq_getElem (by omega)] at this
        simpa [Addr.add] using World.cell?_spot this
      subst hspot
      have hln : ((List.range len).map f).length = len := by simp
      refine ⟨some ⟨b, off, none⟩, cap, (List.range len).map f, by rw [hln]; exact hcs, fun _ => ⟨b, off, rfl, trivial, fun j x hx q u hq => ?_⟩, fun x hx => ?_, by rw [hln]; exact hl, hm, fun h => by cases h⟩
      · have hj : j < len := by have := (List.getElem?_eq_some_iff.1 hx).1; rwa [hln] at this
        have hxj : x = f j := by simpa [hj] using hx.symm
        subst hxj
        have := (hf j hj).1 q u hq
        rwa [Go.WideShapes.add_plain] at this
      · obtain ⟨i, hi', rfl⟩ := List.mem_map.1 hx
        exact (hf i (List.mem_range.1 hi')).2
    · obtain rfl : len = 0 := by omega
      exact ⟨some a, cap, [], hcs, fun h => absurd h (by simp), (fun x h => by cases h), Nat.zero_le _, hm, fun h => by cases h⟩
theorem open_row {α : Type} {t e : TypeId} {k : Nat} {r : Reach} {b0 : Nat} {v : Value} {d : DataW H} {p : List MemPlace} (C : α → List Value) (Wf : α → Prop) (ht : P.underlying t = some (.slice e)) (hc : P.cellsOf e = k) (hk : 0 < k)
    (hE : ∀ n cs y, DataW.trod enc P W base (fun _ => true) held n e cs = some y → ∃ x, cs = C x ∧ Wf x) (hv : Value.okWide P W r b0 t v) (h : DataW.Trod enc P W base (fun _ => true) held t v d p) :
    ∃ (A : Option Addr) (c : Nat) (l : List α), v = .slice A l.length c ∧ RowR W (fun _ => True) k C A l ∧ (∀ x ∈ l, Wf x) ∧ l.length ≤ c ∧ c ≤ maxLen ∧ (A = none → c = 0) := by
  obtain ⟨A0, len0, cap0, rfl⟩ := okWide_slice ht hv
  obtain ⟨fuel, hf⟩ := h
  obtain ⟨A, c, l, hcs, rest⟩ := row_cells C Wf ht hc hk hE hf
  simp [Value.cells] at hcs
  obtain ⟨rfl, rfl, rfl⟩ := hcs
  exact ⟨_, _, l, rfl, rest⟩
/-- Structs of integers, by their cells. -/
theorem ints2_cells {e : TypeId} {kd : IntKind} {f0 f1 : Field} {n : Nat} {cs : List Value} {y : DataW H × List MemPlace} (hu : P.underlying e = some (.struct #[f0, f1])) (h0 : P.underlying f0.type = some (.int kd)) (h1 : P.underlying f1.type = some (.int kd)) (o : f0.offset = 0 ∧ f1.offset = 1) (c : P.cellsOf f0.type = 1 ∧ P.cellsOf f1.type = 1) (ct : P.cellsOf e = 2)
    (h : DataW.trod enc P W base (fun _ => true) held n e cs = some y) : ∃ a b : Int, cs = [.int kd a, .int kd b] ∧ (Lit.int kd a).wf = true ∧ (Lit.int kd b).wf = true := by
  obtain ⟨y0, y1, m, _, hl, k0, k1⟩ := trod_struct2 hu h
  rw [ct] at hl
  rw [o.1, c.1] at k0
  rw [o.2, c.2] at k1
  match cs, hl with
  | [v0, v1], _ =>
    obtain ⟨a, ha, _, wa⟩ := DataW.trod_int h0 k0
    obtain ⟨b, hb, _, wb⟩ := DataW.trod_int h1 k1
    simp [Value.cells] at ha hb
    exact ⟨a, b, by rw [ha, hb], wa, wb⟩
theorem ints3_cells {e : TypeId} {kd : IntKind} {f0 f1 f2 : Field} {n : Nat} {cs : List Value} {y : DataW H × List MemPlace} (hu : P.underlying e = some (.struct #[f0, f1, f2])) (h0 : P.underlying f0.type = some (.int kd)) (h1 : P.underlying f1.type = some (.int kd)) (h2 : P.underlying f2.type = some (.int kd)) (o : f0.offset = 0 ∧ f1.offset = 1 ∧ f2.offset = 2) (c : P.cellsOf f0.type = 1 ∧ P.cellsOf f1.type = 1 ∧ P.cellsOf f2.type = 1) (ct : P.cellsOf e = 3)
    (h : DataW.trod enc P W base (fun _ => true) held n e cs = some y) : ∃ a b d : Int, cs = [.int kd a, .int kd b, .int kd d] ∧ (Lit.int kd a).wf = true ∧ (Lit.int kd b).wf = true ∧ (Lit.int kd d).wf = true := by
  obtain ⟨y0, y1, y2, m, _, hl, k0, k1, k2⟩ := Go.Deep.trod_struct3 hu h
  rw [ct] at hl
  rw [o.1, c.1] at k0
  rw [o.2.1, c.2.1] at k1
  rw [o.2.2, c.2.2] at k2
  match cs, hl with
  | [v0, v1, v2], _ =>
    obtain ⟨a, ha, _, wa⟩ := DataW.trod_int h0 k0
    obtain ⟨b, hb, _, wb⟩ := DataW.trod_int h1 k1
    obtain ⟨d, hd, _, wd⟩ := DataW.trod_int h2 k2
    simp [Value.cells] at ha hb hd
    exact ⟨a, b, d, by rw [ha, hb, hd], wa, wb, wd⟩
/-- A struct by value, out of what its cells are. -/
theorem open_agg {α : Type} {t : TypeId} {fs : Array Field} {r : Reach} {b0 : Nat} {v : Value} {d : DataW H} {p : List MemPlace} (C : α → List Value) (Wf : α → Prop) (hu : P.underlying t = some (.struct fs))
    (hE : ∀ n cs y, DataW.trod enc P W base (fun _ => true) held n t cs = some y → ∃ x, cs = C x ∧ Wf x) (hv : Value.okWide P W r b0 t v) (h : DataW.Trod enc P W base (fun _ => true) held t v d p) : ∃ x, v = .agg (C x).toArray ∧ Wf x := by
  obtain ⟨cs, rfl, _⟩ := okWide_struct hu hv
  obtain ⟨fuel, hf⟩ := h
  obtain ⟨x, hcs, hw⟩ := hE _ _ _ hf
  refine ⟨x, ?_, hw⟩
  have : cs.toList = C x := by simpa [Value.cells] using hcs
  rw [← this, Array.toArray_toList]
/-- Words, as a row. -/
theorem word_cells {e : TypeId} {kd : IntKind} {n : Nat} {cs : List Value} {y : DataW H × List MemPlace} (hu : P.underlying e = some (.int kd)) (h : DataW.trod enc P W base (fun _ => true) held n e cs = some y) : ∃ a : Int, cs = [.int kd a] ∧ (Lit.int kd a).wf = true := by
  obtain ⟨a, ha, _, wa⟩ := DataW.trod_int hu h
  exact ⟨a, by simpa [Value.cells] using ha, wa⟩
end
theorem RowR.sl {w : World} {S : Nat → Prop} {kd : IntKind} {A : Option Addr} {l : List Int} (h : RowR w S 1 (fun a => [Value.int kd a]) A l) : SlR w S kd A l := fun h0 => by
  obtain ⟨b, o, rfl, hb, hc⟩ := h h0
  exact ⟨b, o, rfl, hb, fun j d hd => by simpa using hc j d hd 0 _ rfl⟩
end Go.Proofs.YtokabljeekokmaaDoor
