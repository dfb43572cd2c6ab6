/-
  Opening points, pairs of points and pairs of slices that came in. No program is named here.
-/
import Derived.Test.YtdcckjpeibnkbaaDoorCardKit2
namespace Go.Proofs.YtdcckjpeibnkbaaDoor
open Go.RowKit Go.ChangeShapes Go.WideShapes

section
variable {H : Type} {enc : TypeId × Value → H} {P : Program} {W : World} {base : Nat} {held : Bool}
theorem words_cell {t e : TypeId} {n : Nat} {cs : List Value} {x : DataW H × List MemPlace} (ht : P.underlying t = some (.slice e)) (he : P.underlying e = some (.int .u64)) (hc : P.cellsOf e = 1) (hf : DataW.trod enc P W base (fun _ => true) held n t cs = some x) :
    ∃ (A : Option Addr) (c : Nat) (ls : List Int), cs = [.slice A ls.length c] ∧ SlR W (fun _ => True) .u64 A ls ∧ Us ls ∧ ls.length ≤ c ∧ c ≤ maxLen := by
  rcases open_ints ht he hc hf with ⟨hcs, _⟩ | ⟨a, len0, cap0, zs, hcs, _, hl, hm, hz, _, hcell, hwz⟩
  · exact ⟨none, 0, [], hcs, SlR.nil_ _ _ _ _, (fun d h => by cases h), Nat.le_refl _, Nat.zero_le _⟩
  · have hz' : zs.length = cap0 := by simpa using hz
    have hlen : (zs.take len0).length = len0 := by rw [List.length_take]; omega
    refine ⟨some a, cap0, zs.take len0, by rw [hlen]; exact hcs, fun h0 => ?_, fun d hd => ?_, by rw [hlen]; exact hl, hm⟩
    · obtain ⟨b, off, rfl, hc2⟩ := ints_at hcell (by rw [hlen] at h0; omega)
      refine ⟨b, off, rfl, trivial, fun j x hx => ?_⟩
      have hj : j < len0 := by
        rcases Nat.lt_or_ge j len0 with h | h
        · exact h
        · rw [List.getElem?_eq_none (by rw [hlen]; exact h)] at hx; cases hx
      rw [List.getElem?_take, if_pos hj] at hx
      rw [hc2 j (by omega)]
      have : zs.getD j 0 = x := by simp [List.getD_eq_getElem?_getD, hx]
      rw [this]
    · have := bounds_u64 (hwz d (List.mem_of_mem_take hd))
      unfold U; omega
/-- Two integers, by their cells. -/
theorem point_cells {t e : TypeId} {f0 f1 : Field} {n : Nat} {cs : List Value} {x : DataW H × List MemPlace} (hu : P.underlying t = some (.struct #[f0, f1])) (h0 : P.underlying f0.type = some (.int .i64)) (h1 : P.underlying f1.type = some (.int .i64)) (o0 : f0.offset = 0) (o1 : f1.offset = 1) (c0 : P.cellsOf f0.type = 1) (c1 : P.cellsOf f1.type = 1) (ct : P.cellsOf t = 2) (_he : e = t)
    (h : DataW.trod enc P W base (fun _ => true) held n t cs = some x) : ∃ a b : Int, cs = [.int .i64 a, .int .i64 b] ∧ (Lit.int .i64 a).wf = true ∧ (Lit.int .i64 b).wf = true := by
  obtain ⟨y0, y1, m, _, hl, k0, k1⟩ := trod_struct2 hu h
  rw [ct] at hl
  rw [o0, c0] at k0
  rw [o1, c1] at k1
  match cs, hl with
  | [v0, v1], _ =>
    obtain ⟨a, ha, _, wa⟩ := DataW.trod_int h0 k0
    obtain ⟨b, hb, _, wb⟩ := DataW.trod_int h1 k1
    simp at ha hb
    exact ⟨a, b, by rw [ha, hb], wa, wb⟩
theorem open_point {t : TypeId} {f0 f1 : Field} {r : Reach} {b0 : Nat} {v : Value} {d : DataW H} {p : List MemPlace} (hu : P.underlying t = some (.struct #[f0, f1])) (h0 : P.underlying f0.type = some (.int .i64)) (h1 : P.underlying f1.type = some (.int .i64)) (o0 : f0.offset = 0) (o1 : f1.offset = 1) (c0 : P.cellsOf f0.type = 1) (c1 : P.cellsOf f1.type = 1) (ct : P.cellsOf t = 2)
    (hv : Value.okWide P W r b0 t v) (h : DataW.Trod enc P W base (fun _ => true) held t v d p) : ∃ a b : Int, v = .agg #[.int .i64 a, .int .i64 b] ∧ (Lit.int .i64 a).wf = true ∧ (Lit.int .i64 b).wf = true := by
  obtain ⟨cs, rfl, _⟩ := okWide_struct hu hv
  obtain ⟨fuel, hf⟩ := h
  obtain ⟨a, b, hcs, wa, wb⟩ := point_cells (e := t) hu h0 h1 o0 o1 c0 c1 ct rfl hf
  refine ⟨a, b, ?_, wa, wb⟩
  have : cs.toList = [.int .i64 a, .int .i64 b] := by simpa [Value.cells] using hcs
  rw [← Array.toArray_toList (xs := cs), this]
theorem open_pair {t e : TypeId} {f0 f1 : Field} {r : Reach} {b0 : Nat} {v : Value} {d : DataW H} {p : List MemPlace} (ha : P.underlying t = some (.array 2 e)) (hu : P.underlying e = some (.struct #[f0, f1])) (h0 : P.underlying f0.type = some (.int .i64)) (h1 : P.underlying f1.type = some (.int .i64)) (o0 : f0.offset = 0) (o1 : f1.offset = 1) (c0 : P.cellsOf f0.type = 1) (c1 : P.cellsOf f1.type = 1) (ct : P.cellsOf e = 2) (ct2 : P.cellsOf t = 4)
    (hv : Value.okWide P W r b0 t v) (h : DataW.Trod enc P W base (fun _ => true) held t v d p) : ∃ a b c d : Int, v = .agg #[.int .i64 a, .int .i64 b, .int .i64 c, .int .i64 d] ∧ ((Lit.int .i64 a).wf = true ∧ (Lit.int .i64 b).wf = true) ∧ (Lit.int .i64 c).wf = true ∧ (Lit.int .i64 d).wf = true := by
  simp only [Value.okWide, ha] at hv
  obtain ⟨cs, rfl, hn, _⟩ := hv
  rw [ct2] at hn
  obtain ⟨fuel, hf⟩ := h
  obtain ⟨xs, m, _, _, _, hx, hall⟩ := DataW.trod_array ha hf
  rw [ct] at hall
  have k0 := hall 0 (by decide)
  have k1 := hall 1 (by decide)
  obtain ⟨u0, u1, u2, u3, rfl⟩ : ∃ u0 u1 u2 u3, cs = #[u0, u1, u2, u3] := by
    match cs, hn with
    | ⟨[u0, u1, u2, u3]⟩, _ => exact ⟨u0, u1, u2, u3, rfl⟩
  match xs, hx with
  | [x0, x1], _ =>
    obtain ⟨a, b, e1, wa, wb⟩ := point_cells (e := e) hu h0 h1 o0 o1 c0 c1 ct rfl k0
    obtain ⟨c, d, e2, wc, wd⟩ := point_cells (e := e) hu h0 h1 o0 o1 c0 c1 ct rfl k1
    simp [Value.cells] at e1 e2
    obtain ⟨rfl, rfl⟩ := e1
    obtain ⟨rfl, rfl⟩ := e2
    exact ⟨a, b, c, d, rfl, ⟨wa, wb⟩, wc, wd⟩
theorem open_vec {t e : TypeId} {f0 f1 : Field} {r : Reach} {b0 : Nat} {v : Value} {d : DataW H} {p : List MemPlace} (hu : P.underlying t = some (.struct #[f0, f1])) (h0 : P.underlying f0.type = some (.slice e)) (h1 : P.underlying f1.type = some (.slice e)) (he : P.underlying e = some (.int .u64)) (hc : P.cellsOf e = 1) (o0 : f0.offset = 0) (o1 : f1.offset = 1) (c0 : P.cellsOf f0.type = 1) (c1 : P.cellsOf f1.type = 1) (ct : P.cellsOf t = 2)
    (hv : Value.okWide P W r b0 t v) (h : DataW.Trod enc P W base (fun _ => true) held t v d p) :
    ∃ (A : Option Addr) (c : Nat) (ls : List Int) (B : Option Addr) (d : Nat) (ms : List Int), v = .agg #[.slice A ls.length c, .slice B ms.length d] ∧ (SlR W (fun _ => True) .u64 A ls ∧ Us ls ∧ ls.length ≤ c) ∧ (SlR W (fun _ => True) .u64 B ms ∧ Us ms ∧ ms.length ≤ d) := by
  obtain ⟨cs, rfl, _⟩ := okWide_struct hu hv
  obtain ⟨fuel, hf⟩ := h
  obtain ⟨y0, y1, m, _, hl, k0, k1⟩ := trod_struct2 hu hf
  rw [ct] at hl
  rw [o0, c0] at k0
  rw [o1, c1] at k1
  obtain ⟨A, c, ls, e0, s0, u0, l0, _⟩ := words_cell h0 he hc k0
  obtain ⟨B, d, ms, e1, s1, u1, l1, _⟩ := words_cell h1 he hc k1
  obtain ⟨v0, v1, rfl⟩ : ∃ v0 v1, cs = #[v0, v1] := by
    match cs, (show cs.size = 2 by simpa [Value.cells] using hl) with
    | ⟨[v0, v1]⟩, _ => exact ⟨v0, v1, rfl⟩
  simp [Value.cells] at e0 e1
  subst e0 e1
  exact ⟨A, c, ls, B, d, ms, rfl, ⟨s0, u0, l0⟩, s1, u1, l1⟩
end
end Go.Proofs.YtdcckjpeibnkbaaDoor
