/-
  Opening arguments.
-/
import Derived.Test.YtokabljeekokmaaDoorRows
import Derived.Below
import Derived.Carry
import Derived.ChangeSame
import Derived.OpenShut
import Derived.RowKit
import Derived.Test.YtokabljeekokmaaDoorBase
import Derived.ChangeSlices
import Derived.ProofKit
import Derived.ChangeMaps5
/- The last step of a law's row, whatever the arguments' types: where the call only laid new blocks, every argument reads behind it as it read before, and the result true is read. No program is named here. -/
namespace Go.Proofs.YtokabljeekokmaaDoor
open Go.RowKit Go.ChangeShapes Go.WideShapes
set_option maxRecDepth 100000
set_option linter.unusedVariables false
set_option linter.unusedSimpArgs false

theorem readable_all {P : Program} {t : TypeId} {ts : List TypeId} (h : ((t :: ts).all fun t => P.readableRec t && decide (t < P.types.size)) = true) : P.readableRec t = true ∧ t < P.types.size ∧ (ts.all fun t => P.readableRec t && decide (t < P.types.size)) = true := by
  simp only [List.all_cons, Bool.and_eq_true, decide_eq_true_eq] at h
  exact ⟨h.1.1, h.1.2, h.2⟩
/-- All arguments read as before. -/
theorem stays_all {H : Type} {enc : TypeId × Value → H} {P : Program} (hl : laidOutB P = true) {W W' : World} {sp : Nat → Bool} :
    ∀ {ts : List TypeId} {vs : List Value} {ds : List (DataW H)} {ps : List MemPlace}, (ts.all fun t => P.readableRec t && decide (t < P.types.size)) = true →
      DataW.TrodAll enc P W 0 (fun _ => true) true ts vs ds ps → (∀ x ∈ ps, W.sameAt W' x) → (∀ x ∈ ps, sp x.block = true) → DataW.TrodAll enc P W' 0 sp true ts vs ds ps
  | [], [], [], _, _, h, _, _ => h
  | [], _ :: _, _, _, _, h, _, _ => h.elim
  | [], [], _ :: _, _, _, h, _, _ => h.elim
  | _ :: _, [], _, _, _, h, _, _ => h.elim
  | _ :: _, _ :: _, [], _, _, h, _, _ => h.elim
  | t :: ts, v :: vs, d :: ds, ps, hr, h, hs, hp => by
    obtain ⟨p, q, h1, h2, rfl⟩ := h
    obtain ⟨r1, r2, r3⟩ := readable_all hr
    exact ⟨p, q, WideElems.Trod_stays hl r1 r2 h1 (fun x hx => hs x (by simp [hx])) (fun x hx => hp x (by simp [hx])), stays_all hl r3 h2 (fun x hx => hs x (by simp [hx])) (fun x hx => hp x (by simp [hx])), rfl⟩

/-- An array of two words. -/
theorem open_u64x2 {H : Type} {enc : TypeId × Value → H} {P : Program} {W : World} {base : Nat} {sp : Nat → Bool} {held : Bool} {t e : TypeId} {r : Reach} {b0 : Nat} {v : Value} {d : DataW H} {p : List MemPlace}
    (hu : P.underlying t = some (.array 2 e)) (he : P.underlying e = some (.int .u64)) (hce : P.cellsOf e = 1) (hct : P.cellsOf t = 2) (hv : Value.okWide P W r b0 t v) (h : DataW.Trod enc P W base sp held t v d p) :
    ∃ a b : Int, v = .agg #[.int .u64 a, .int .u64 b] ∧ (Lit.int .u64 a).wf = true ∧ (Lit.int .u64 b).wf = true := by
  simp only [Value.okWide, hu] at hv
  obtain ⟨cs, rfl, hn, _⟩ := hv
  rw [hct] at hn
  obtain ⟨fuel, hf⟩ := h
  obtain ⟨xs, m, _, _, _, hx, hall⟩ := DataW.trod_array hu hf
  rw [hce] at hall
  have k0 := hall 0 (by decide)
  have k1 := hall 1 (by decide)
  obtain ⟨c0, c1, rfl⟩ : ∃ c0 c1, cs = #[c0, c1] := by
    match cs, hn with
    | ⟨[c0, c1]⟩, _ => exact ⟨c0, c1, rfl⟩
  match xs, hx with
  | [x0, x1], _ =>
    obtain ⟨a, ha, _, wa⟩ := DataW.trod_int he k0
    obtain ⟨b, hb, _, wb⟩ := DataW.trod_int he k1
    simp [Value.cells] at ha hb
    exact ⟨a, b, by rw [ha, hb], wa, wb⟩

/-- A law's row. -/
theorem post_law {H : Type} {enc : TypeId × Value → H} {P : Program} {f : Func} {s : ChangeSpec} {W W' : World} {args : Array Value} {ds : List (DataW H)} {before : List MemPlace} {tb : TypeId}
    (hl : laidOutB P = true) (hr : (f.params.toList.all fun t => P.readableRec t && decide (t < P.types.size)) = true) (hb : P.underlying tb = some .bool) (hres : f.resultTypes = #[tb])
    (hW : DataW.Whole enc P f.params.toList s.vars false W args.toList ds [] before) (hA : DataW.TrodAll enc P W 0 (fun _ => true) true f.params.toList args.toList ds before)
    (hfn : s.fn H ds = { results := [.lit (.bool true)], args := ds }) (hv : s.vars = []) (h : Below W.heap.size W W') :
    s.post enc P f false true false false W args (.bool true) W' := by
  have hlt : ∀ p ∈ before, p.block < W.heap.size := fun p hp => by simpa using hW.lt p hp
  have hfn' : s.fn H (ds ++ []) = { results := [.lit (.bool true)], args := ds } := by rw [List.append_nil]; exact hfn
  refine ⟨ds, [], before, [], before, [], hW, ?_, ?_, ?_, World.keptBut_mono (fun p hp => ⟨hp, ?_⟩) (h.frame (· ∈ before)), fun hf => ?_⟩
  · rw [hfn', hres]; exact trodAll_cons_mk (shut_bool hb true) rfl
  · rw [hfn']; exact stays_all hl hr hA (fun p hp => h.same (hlt p hp)) (fun p hp => by simpa using hlt p hp)
  · rw [hfn', hv]; exact rfl
  · exact Or.inr (Or.inl hp)
  · exact absurd hf (by decide)
end Go.Proofs.YtokabljeekokmaaDoor
/- Opening a slice of words that came in. No program is named here. -/
namespace Go.Proofs.YtokabljeekokmaaDoor
open Go.RowKit Go.ChangeShapes Go.WideShapes
set_option maxRecDepth 100000
set_option linter.unusedVariables false
set_option linter.unusedSimpArgs false

theorem open_words {H : Type} {enc : TypeId × Value → H} {P : Program} {W : World} {base : Nat} {held : Bool} {t e : TypeId} {r : Reach} {b0 : Nat} {v : Value} {d : DataW H} {p : List MemPlace}
    (ht : P.underlying t = some (.slice e)) (he : P.underlying e = some (.int .u64)) (hc : P.cellsOf e = 1) (hv : Value.okWide P W r b0 t v) (h : DataW.Trod enc P W base (fun _ => true) held t v d p) :
    ∃ (A : Option Addr) (c : Nat) (ls : List Int), v = .slice A ls.length c ∧ SlR W (fun _ => True) .u64 A ls ∧ Us ls ∧ ls.length ≤ c ∧ c ≤ maxLen := by
  obtain ⟨A0, len0, cap0, rfl⟩ := okWide_slice ht hv
  obtain ⟨fuel, hf⟩ := h
  rcases open_ints ht he hc hf with ⟨hcs, _⟩ | ⟨a, len, cap, zs, hcs, _, hl, hm, hz, _, hcell, hwz⟩
  · simp [Value.cells] at hcs
    obtain ⟨rfl, rfl, rfl⟩ := hcs
    exact ⟨none, 0, [], rfl, SlR.nil_ _ _ _ _, (fun d h => by cases h), Nat.le_refl _, Nat.zero_le _⟩
  · simp [Value.cells] at hcs
    obtain ⟨rfl, rfl, rfl⟩ := hcs
    have hz' : zs.length = cap0 := by simpa using hz
    have hlen : (zs.take len0).length = len0 := by rw [List.length_take]; omega
    refine ⟨some a, cap0, zs.take len0, by rw [hlen], fun h0 => ?_, fun d hd => ?_, by rw [hlen]; exact hl, hm⟩
    · obtain ⟨b, off, rfl, hc2⟩ := ints_at hcell (by rw [hlen] at h0; omega)
      refine ⟨b, off, rfl, trivial, fun j x hx => ?_⟩
      have hj : j < len0 := by
        rcases Nat.lt_or_ge j len0 with h | h
        · exact h
        · rw [List.getElem?_eq_none (by rw [hlen]; exact h)] at hx; cases hx
      rw [List.getElem?_take, if_pos hj] at hx
      rw [hc2 j (by omega)]
      have : zs.getD j 0 = x := by simp [List.getD_eq_getElem?_getD, hx]
      rw [this]
    · have := bounds_u64 (hwz d (List.mem_of_mem_take hd))
      unfold U; omega
end Go.Proofs.YtokabljeekokmaaDoor
/- Opening a text that came in. No program is named here. -/
namespace Go.Proofs.YtokabljeekokmaaDoor
open Go.RowKit Go.ChangeShapes Go.WideShapes
set_option maxRecDepth 100000
set_option linter.unusedVariables false
set_option linter.unusedSimpArgs false

theorem open_text {H : Type} {enc : TypeId × Value → H} {P : Program} {W : World} {base : Nat} {sp : Nat → Bool} {held : Bool} {t : TypeId} {r : Reach} {b0 : Nat} {v : Value} {d : DataW H} {p : List MemPlace}
    (ht : P.underlying t = some .string) (hv : Value.okWide P W r b0 t v) (h : DataW.Trod enc P W base sp held t v d p) : ∃ l : List UInt8, v = .string (bs l) := by
  obtain ⟨s, rfl, _⟩ := ChangeMaps.open_string ht hv h
  exact ⟨s.data.toList, by congr 1⟩
end Go.Proofs.YtokabljeekokmaaDoor
/- Opening points, pairs of points and pairs of slices that came in. No program is named here. -/
namespace Go.Proofs.YtokabljeekokmaaDoor
open Go.RowKit Go.ChangeShapes Go.WideShapes
set_option maxRecDepth 100000
set_option linter.unusedVariables false
set_option linter.unusedSimpArgs false

section
variable {H : Type} {enc : TypeId × Value → H} {P : Program} {W : World} {base : Nat} {held : Bool}
theorem words_cell {t e : TypeId} {n : Nat} {cs : List Value} {x : DataW H × List MemPlace} (ht : P.underlying t = some (.slice e)) (he : P.underlying e = some (.int .u64)) (hc : P.cellsOf e = 1) (hf : DataW.trod enc P W base (fun _ => true) held n t cs = some x) :
    ∃ (A : Option Addr) (c : Nat) (ls : List Int), cs = [.slice A ls.length c] ∧ SlR W (fun _ => True) .u64 A ls ∧ Us ls ∧ ls.length ≤ c ∧ c ≤ maxLen := by
  rcases open_ints ht he hc hf with ⟨hcs, _⟩ | ⟨a, len0, cap0, zs, hcs, _, hl, hm, hz, _, hcell, hwz⟩
  · exact ⟨none, 0, [], hcs, SlR.nil_ _ _ _ _, (fun d h => by cases h), Nat.le_refl _, Nat.zero_le _⟩
  · have hz' : zs.length = cap0 := by simpa using hz
    have hlen : (zs.take len0).length = len0 := by rw [List.length_take]; omega
    refine ⟨some a, cap0, zs.take len0, by rw [hlen]; exact hcs, fun h0 => ?_, fun d hd => ?_, by rw [hlen]; exact hl, hm⟩
    · obtain ⟨b, off, rfl, hc2⟩ := ints_at hcell (by rw [hlen] at h0; omega)
      refine ⟨b, off, rfl, trivial, fun j x hx => ?_⟩
      have hj : j < len0 := by
        rcases Nat.lt_or_ge j len0 with h | h
        · exact h
        · rw [List.getElem?_eq_none (by rw [hlen]; exact h)] at hx; cases hx
      rw [List.getElem?_take, if_pos hj] at hx
      rw [hc2 j (by omega)]
      have : zs.getD j 0 = x := by simp [List.getD_eq_getElem?_getD, hx]
      rw [this]
    · have := bounds_u64 (hwz d (List.mem_of_mem_take hd))
      unfold U; omega
/-- Two integers, by their cells. -/
theorem point_cells {t e : TypeId} {f0 f1 : Field} {n : Nat} {cs : List Value} {x : DataW H × List MemPlace} (hu : P.underlying t = some (.struct #[f0, f1])) (h0 : P.underlying f0.type = some (.int .i64)) (h1 : P.underlying f1.type = some (.int .i64)) (o0 : f0.offset = 0) (o1 : f1.offset = 1) (c0 : P.cellsOf f0.type = 1) (c1 : P.cellsOf f1.type = 1) (ct : P.cellsOf t = 2) (_he : e = t)
    (h : DataW.trod enc P W base (fun _ => true) held n t cs = some x) : ∃ a b : Int, cs = [.int .i64 a, .int .i64 b] ∧ (Lit.int .i64 a).wf = true ∧ (Lit.int .i64 b).wf = true := by
  obtain ⟨y0, y1, m, _, hl, k0, k1⟩ := trod_struct2 hu h
  rw [ct] at hl
  rw [o0, c0] at k0
  rw [o1, c1] at k1
  match cs, hl with
  | [v0, v1], _ =>
    obtain ⟨a, ha, _, wa⟩ := DataW.trod_int h0 k0
    obtain ⟨b, hb, _, wb⟩ := DataW.trod_int h1 k1
    simp [Value.cells] at ha hb
    exact ⟨a, b, by rw [ha, hb], wa, wb⟩
theorem open_point {t : TypeId} {f0 f1 : Field} {r : Reach} {b0 : Nat} {v : Value} {d : DataW H} {p : List MemPlace} (hu : P.underlying t = some (.struct #[f0, f1])) (h0 : P.underlying f0.type = some (.int .i64)) (h1 : P.underlying f1.type = some (.int .i64)) (o0 : f0.offset = 0) (o1 : f1.offset = 1) (c0 : P.cellsOf f0.type = 1) (c1 : P.cellsOf f1.type = 1) (ct : P.cellsOf t = 2)
    (hv : Value.okWide P W r b0 t v) (h : DataW.Trod enc P W base (fun _ => true) held t v d p) : ∃ a b : Int, v = .agg #[.int .i64 a, .int .i64 b] ∧ (Lit.int .i64 a).wf = true ∧ (Lit.int .i64 b).wf = true := by
  obtain ⟨cs, rfl, _⟩ := okWide_struct hu hv
  obtain ⟨fuel, hf⟩ := h
  obtain ⟨a, b, hcs, wa, wb⟩ := point_cells (e := t) hu h0 h1 o0 o1 c0 c1 ct rfl hf
  refine ⟨a, b, ?_, wa, wb⟩
  have : cs.toList = [.int .i64 a, .int .i64 b] := by simpa [Value.cells] using hcs
  rw [← Array.toArray_toList (xs := cs), this]
theorem open_pair {t e : TypeId} {f0 f1 : Field} {r : Reach} {b0 : Nat} {v : Value} {d : DataW H} {p : List MemPlace} (ha : P.underlying t = some (.array 2 e)) (hu : P.underlying e = some (.struct #[f0, f1])) (h0 : P.underlying f0.type = some (.int .i64)) (h1 : P.underlying f1.type = some (.int .i64)) (o0 : f0.offset = 0) (o1 : f1.offset = 1) (c0 : P.cellsOf f0.type = 1) (c1 : P.cellsOf f1.type = 1) (ct : P.cellsOf e = 2) (ct2 : P.cellsOf t = 4)
    (hv : Value.okWide P W r b0 t v) (h : DataW.Trod enc P W base (fun _ => true) held t v d p) : ∃ a b c d : Int, v = .agg #[.int .i64 a, .int .i64 b, .int .i64 c, .int .i64 d] ∧ ((Lit.int .i64 a).wf = true ∧ (Lit.int .i64 b).wf = true) ∧ (Lit.int .i64 c).wf = true ∧ (Lit.int .i64 d).wf = true := by
  simp only [Value.okWide, ha] at hv
  obtain ⟨cs, rfl, hn, _⟩ := hv
  rw [ct2] at hn
  obtain ⟨fuel, hf⟩ := h
  obtain ⟨xs, m, _, _, _, hx, hall⟩ := DataW.trod_array ha hf
  rw [ct] at hall
  have k0 := hall 0 (by decide)
  have k1 := hall 1 (by decide)
  obtain ⟨u0, u1, u2, u3, rfl⟩ : ∃ u0 u1 u2 u3, cs = #[u0, u1, u2, u3] := by
    match cs, hn with
    | ⟨[u0, u1, u2, u3]⟩, _ => exact ⟨u0, u1, u2, u3, rfl⟩
  match xs, hx with
  | [x0, x1], _ =>
    obtain ⟨a, b, e1, wa, wb⟩ := point_cells (e := e) hu h0 h1 o0 o1 c0 c1 ct rfl k0
    obtain ⟨c, d, e2, wc, wd⟩ := point_cells (e := e) hu h0 h1 o0 o1 c0 c1 ct rfl k1
    simp [Value.cells] at e1 e2
    obtain ⟨rfl, rfl⟩ := e1
    obtain ⟨rfl, rfl⟩ := e2
    exact ⟨a, b, c, d, rfl, ⟨wa, wb⟩, wc, wd⟩
theorem open_vec {t e : TypeId} {f0 f1 : Field} {r : Reach} {b0 : Nat} {v : Value} {d : DataW H} {p : List MemPlace} (hu : P.underlying t = some (.struct #[f0, f1])) (h0 : P.underlying f0.type = some (.slice e)) (h1 : P.underlying f1.type = some (.slice e)) (he : P.underlying e = some (.int .u64)) (hc : P.cellsOf e = 1) (o0 : f0.offset = 0) (o1 : f1.offset = 1) (c0 : P.cellsOf f0.type = 1) (c1 : P.cellsOf f1.type = 1) (ct : P.cellsOf t = 2)
    (hv : Value.okWide P W r b0 t v) (h : DataW.Trod enc P W base (fun _ => true) held t v d p) :
    ∃ (A : Option Addr) (c : Nat) (ls : List Int) (B : Option Addr) (d : Nat) (ms : List Int), v = .agg #[.slice A ls.length c, .slice B ms.length d] ∧ (SlR W (fun _ => True) .u64 A ls ∧ Us ls ∧ ls.length ≤ c) ∧ (SlR W (fun _ => True) .u64 B ms ∧ Us ms ∧ ms.length ≤ d) := by
  obtain ⟨cs, rfl, _⟩ := okWide_struct hu hv
  obtain ⟨fuel, hf⟩ := h
  obtain ⟨y0, y1, m, _, hl, k0, k1⟩ := trod_struct2 hu hf
  rw [ct] at hl
  rw [o0, c0] at k0
  rw [o1, c1] at k1
  obtain ⟨A, c, ls, e0, s0, u0, l0, _⟩ := words_cell h0 he hc k0
  obtain ⟨B, d, ms, e1, s1, u1, l1, _⟩ := words_cell h1 he hc k1
  obtain ⟨v0, v1, rfl⟩ : ∃ v0 v1, cs = #[v0, v1] := by
    match cs, (show cs.size = 2 by simpa [Value.cells] using hl) with
    | ⟨[v0, v1]⟩, _ => exact ⟨v0, v1, rfl⟩
  simp [Value.cells] at e0 e1
  subst e0 e1
  exact ⟨A, c, ls, B, d, ms, rfl, ⟨s0, u0, l0⟩, s1, u1, l1⟩
theorem open_pts3 {t e : TypeId} {f0 f1 : Field} {r : Reach} {b0 : Nat} {v : Value} {d : DataW H} {p : List MemPlace} (ha : P.underlying t = some (.array 3 e)) (hu : P.underlying e = some (.struct #[f0, f1])) (h0 : P.underlying f0.type = some (.int .i64)) (h1 : P.underlying f1.type = some (.int .i64)) (o0 : f0.offset = 0) (o1 : f1.offset = 1) (c0 : P.cellsOf f0.type = 1) (c1 : P.cellsOf f1.type = 1) (ct : P.cellsOf e = 2) (ct2 : P.cellsOf t = 6)
    (hv : Value.okWide P W r b0 t v) (h : DataW.Trod enc P W base (fun _ => true) held t v d p) : ∃ a0 b0 a1 b1 a2 b2 : Int, v = .agg #[.int .i64 a0, .int .i64 b0, .int .i64 a1, .int .i64 b1, .int .i64 a2, .int .i64 b2] ∧ ((Lit.int .i64 a0).wf = true ∧ (Lit.int .i64 b0).wf = true) ∧ ((Lit.int .i64 a1).wf = true ∧ (Lit.int .i64 b1).wf = true) ∧ ((Lit.int .i64 a2).wf = true ∧ (Lit.int .i64 b2).wf = true) := by
  simp only [Value.okWide, ha] at hv
  obtain ⟨cs, rfl, hn, _⟩ := hv
  rw [ct2] at hn
  obtain ⟨fuel, hf⟩ := h
  obtain ⟨xs, m, _, _, _, hx, hall⟩ := DataW.trod_array ha hf
  rw [ct] at hall
  have k0 := hall 0 (by decide)
  have k1 := hall 1 (by decide)
  have k2 := hall 2 (by decide)
  obtain ⟨u0, u1, u2, u3, u4, u5, rfl⟩ : ∃ u0 u1 u2 u3 u4 u5, cs = #[u0, u1, u2, u3, u4, u5] := by
    match cs, hn with
    | ⟨[u0, u1, u2, u3, u4, u5]⟩, _ => exact ⟨u0, u1, u2, u3, u4, u5, rfl⟩
  match xs, hx with
  | [x0, x1, x2], _ =>
    obtain ⟨a0, b0, e0, wa0, wb0⟩ := point_cells (e := e) hu h0 h1 o0 o1 c0 c1 ct rfl k0
    obtain ⟨a1, b1, e1, wa1, wb1⟩ := point_cells (e := e) hu h0 h1 o0 o1 c0 c1 ct rfl k1
    obtain ⟨a2, b2, e2, wa2, wb2⟩ := point_cells (e := e) hu h0 h1 o0 o1 c0 c1 ct rfl k2
    simp [Value.cells] at e0 e1 e2
    obtain ⟨rfl, rfl⟩ := e0
    obtain ⟨rfl, rfl⟩ := e1
    obtain ⟨rfl, rfl⟩ := e2
    exact ⟨a0, b0, a1, b1, a2, b2, rfl, ⟨wa0, wb0⟩, ⟨wa1, wb1⟩, ⟨wa2, wb2⟩⟩
theorem open_pts4 {t e : TypeId} {f0 f1 : Field} {r : Reach} {b0 : Nat} {v : Value} {d : DataW H} {p : List MemPlace} (ha : P.underlying t = some (.array 4 e)) (hu : P.underlying e = some (.struct #[f0, f1])) (h0 : P.underlying f0.type = some (.int .i64)) (h1 : P.underlying f1.type = some (.int .i64)) (o0 : f0.offset = 0) (o1 : f1.offset = 1) (c0 : P.cellsOf f0.type = 1) (c1 : P.cellsOf f1.type = 1) (ct : P.cellsOf e = 2) (ct2 : P.cellsOf t = 8)
    (hv : Value.okWide P W r b0 t v) (h : DataW.Trod enc P W base (fun _ => true) held t v d p) : ∃ a0 b0 a1 b1 a2 b2 a3 b3 : Int, v = .agg #[.int .i64 a0, .int .i64 b0, .int .i64 a1, .int .i64 b1, .int .i64 a2, .int .i64 b2, .int .i64 a3, .int .i64 b3] ∧ ((Lit.int .i64 a0).wf = true ∧ (Lit.int .i64 b0).wf = true) ∧ ((Lit.int .i64 a1).wf = true ∧ (Lit.int .i64 b1).wf = true) ∧ ((Lit.int .i64 a2).wf = true ∧ (Lit.int .i64 b2).wf = true) ∧ ((Lit.int .i64 a3).wf = true ∧ (Lit.int .i64 b3).wf = true) := by
  simp only [Value.okWide, ha] at hv
  obtain ⟨cs, rfl, hn, _⟩ := hv
  rw [ct2] at hn
  obtain ⟨fuel, hf⟩ := h
  obtain ⟨xs, m, _, _, _, hx, hall⟩ := DataW.trod_array ha hf
  rw [ct] at hall
  have k0 := hall 0 (by decide)
  have k1 := hall 1 (by decide)
  have k2 := hall 2 (by decide)
  have k3 := hall 3 (by decide)
  obtain ⟨u0, u1, u2, u3, u4, u5, u6, u7, rfl⟩ : ∃ u0 u1 u2 u3 u4 u5 u6 u7, cs = #[u0, u1, u2, u3, u4, u5, u6, u7] := by
    match cs, hn with
    | ⟨[u0, u1, u2, u3, u4, u5, u6, u7]⟩, _ => exact ⟨u0, u1, u2, u3, u4, u5, u6, u7, rfl⟩
  match xs, hx with
  | [x0, x1, x2, x3], _ =>
    obtain ⟨a0, b0, e0, wa0, wb0⟩ := point_cells (e := e) hu h0 h1 o0 o1 c0 c1 ct rfl k0
    obtain ⟨a1, b1, e1, wa1, wb1⟩ := point_cells (e := e) hu h0 h1 o0 o1 c0 c1 ct rfl k1
    obtain ⟨a2, b2, e2, wa2, wb2⟩ := point_cells (e := e) hu h0 h1 o0 o1 c0 c1 ct rfl k2
    obtain ⟨a3, b3, e3, wa3, wb3⟩ := point_cells (e := e) hu h0 h1 o0 o1 c0 c1 ct rfl k3
    simp [Value.cells] at e0 e1 e2 e3
    obtain ⟨rfl, rfl⟩ := e0
    obtain ⟨rfl, rfl⟩ := e1
    obtain ⟨rfl, rfl⟩ := e2
    obtain ⟨rfl, rfl⟩ := e3
    exact ⟨a0, b0, a1, b1, a2, b2, a3, b3, rfl, ⟨wa0, wb0⟩, ⟨wa1, wb1⟩, ⟨wa2, wb2⟩, ⟨wa3, wb3⟩⟩
theorem open_bools6 {t e : TypeId} {r : Reach} {b0_ : Nat} {v : Value} {d : DataW H} {p : List MemPlace} (ha : P.underlying t = some (.array 6 e)) (he : P.underlying e = some .bool) (ce : P.cellsOf e = 1) (ct : P.cellsOf t = 6)
    (hv : Value.okWide P W r b0_ t v) (h : DataW.Trod enc P W base (fun _ => true) held t v d p) : ∃ b0 b1 b2 b3 b4 b5 : Bool, v = .agg #[.bool b0, .bool b1, .bool b2, .bool b3, .bool b4, .bool b5] := by
  simp only [Value.okWide, ha] at hv
  obtain ⟨cs, rfl, hn, _⟩ := hv
  rw [ct] at hn
  obtain ⟨fuel, hf⟩ := h
  obtain ⟨xs, m, _, _, _, hx, hall⟩ := DataW.trod_array ha hf
  rw [ce] at hall
  have k0 := hall 0 (by decide)
  have k1 := hall 1 (by decide)
  have k2 := hall 2 (by decide)
  have k3 := hall 3 (by decide)
  have k4 := hall 4 (by decide)
  have k5 := hall 5 (by decide)
  obtain ⟨u0, u1, u2, u3, u4, u5, rfl⟩ : ∃ u0 u1 u2 u3 u4 u5, cs = #[u0, u1, u2, u3, u4, u5] := by
    match cs, hn with
    | ⟨[u0, u1, u2, u3, u4, u5]⟩, _ => exact ⟨u0, u1, u2, u3, u4, u5, rfl⟩
  match xs, hx with
  | [x0, x1, x2, x3, x4, x5], _ =>
    obtain ⟨b0, e0, _⟩ := DataW.trod_bool he k0
    obtain ⟨b1, e1, _⟩ := DataW.trod_bool he k1
    obtain ⟨b2, e2, _⟩ := DataW.trod_bool he k2
    obtain ⟨b3, e3, _⟩ := DataW.trod_bool he k3
    obtain ⟨b4, e4, _⟩ := DataW.trod_bool he k4
    obtain ⟨b5, e5, _⟩ := DataW.trod_bool he k5
    simp [Value.cells] at e0 e1 e2 e3 e4 e5
    subst e0 e1 e2 e3 e4 e5
    exact ⟨b0, b1, b2, b3, b4, b5, rfl⟩
theorem open_ints2 {t e : TypeId} {k : IntKind} {r : Reach} {b0 : Nat} {v : Value} {d : DataW H} {p : List MemPlace}
    (hu : P.underlying t = some (.array 2 e)) (he : P.underlying e = some (.int k)) (hce : P.cellsOf e = 1) (hct : P.cellsOf t = 2) (hv : Value.okWide P W r b0 t v) (h : DataW.Trod enc P W base (fun _ => true) held t v d p) :
    ∃ a b : Int, v = .agg #[.int k a, .int k b] ∧ (Lit.int k a).wf = true ∧ (Lit.int k b).wf = true := by
  simp only [Value.okWide, hu] at hv
  obtain ⟨cs, rfl, hn, _⟩ := hv
  rw [hct] at hn
  obtain ⟨fuel, hf⟩ := h
  obtain ⟨xs, m, _, _, _, hx, hall⟩ := DataW.trod_array hu hf
  rw [hce] at hall
  have k0 := hall 0 (by decide)
  have k1 := hall 1 (by decide)
  obtain ⟨c0, c1, rfl⟩ : ∃ c0 c1, cs = #[c0, c1] := by
    match cs, hn with
    | ⟨[c0, c1]⟩, _ => exact ⟨c0, c1, rfl⟩
  match xs, hx with
  | [x0, x1], _ =>
    obtain ⟨a, ha, _, wa⟩ := DataW.trod_int he k0
    obtain ⟨b, hb, _, wb⟩ := DataW.trod_int he k1
    simp [Value.cells] at ha hb
    exact ⟨a, b, by rw [ha, hb], wa, wb⟩
end
end Go.Proofs.YtokabljeekokmaaDoor
