/-
  Opening regions that came in.
-/
import Derived.Test.YtokabljeekokmaaDoorOpen
import Derived.Test.YtokabljeekokmaaDoorRgA
import Derived.Test.YtokabljeekokmaaDoorWf
namespace Go.Proofs.YtokabljeekokmaaDoor
open Go.RowKit Go.ChangeShapes Go.WideShapes
set_option maxRecDepth 100000
set_option linter.unusedVariables false
set_option linter.unusedSimpArgs false

section
variable {H : Type} {enc : TypeId × Value → H} {P : Program} {W : World} {base : Nat} {held : Bool}
theorem rg_cells {e ep : TypeId} {f0 f1 f2 g0 g1 : Field} {n : Nat} {cs : List Value} {y : DataW H × List MemPlace} (hu : P.underlying e = some (.struct #[f0, f1, f2])) (h0 : P.underlying f0.type = some .bool) (h1 : P.underlying f1.type = some (.int .i64)) (h2 : P.underlying f2.type = some (.slice ep))
    (o : f0.offset = 0 ∧ f1.offset = 1 ∧ f2.offset = 2) (c : P.cellsOf f0.type = 1 ∧ P.cellsOf f1.type = 1 ∧ P.cellsOf f2.type = 1) (ct : P.cellsOf e = 3)
    (hp : P.underlying ep = some (.struct #[g0, g1])) (p0 : P.underlying g0.type = some (.int .i64)) (p1 : P.underlying g1.type = some (.int .i64)) (po : g0.offset = 0 ∧ g1.offset = 1) (pc : P.cellsOf g0.type = 1 ∧ P.cellsOf g1.type = 1) (pt : P.cellsOf ep = 2)
    (h : DataW.trod enc P W base (fun _ => true) held n e cs = some y) : ∃ r : Rg, cs = rgC r ∧ RegOk W (fun _ => True) r := by
  obtain ⟨y0, y1, y2, m, _, hl, k0, k1, k2⟩ := Go.Deep.trod_struct3 hu h
  rw [ct] at hl
  rw [o.1, c.1] at k0
  rw [o.2.1, c.2.1] at k1
  rw [o.2.2, c.2.2] at k2
  match cs, hl with
  | [v0, v1, v2], _ =>
    obtain ⟨d, hd, _⟩ := DataW.trod_bool h0 k0
    obtain ⟨v, hv, _, wv⟩ := DataW.trod_int h1 k1
    obtain ⟨A, cp, l, hs, hrow, hwf, hlc, _, hnil⟩ := row_cells (k := 2) ptC (fun x => (Lit.int .i64 x.x).wf = true ∧ (Lit.int .i64 x.y).wf = true) h2 pt (by decide)
      (fun _ _ _ h => by obtain ⟨a, b, e, h1, h2⟩ := ints2_cells hp p0 p1 po pc pt h; exact ⟨⟨a, b⟩, e, h1, h2⟩) k2
    simp [Value.cells] at hd hv hs
    exact ⟨⟨d, v, A, cp, l⟩, by rw [hd, hv, hs]; rfl, ⟨hrow, fun q hq => ⟨S_of_wf (hwf q hq).1, S_of_wf (hwf q hq).2⟩, hnil, S_of_wf wv⟩⟩
end
end Go.Proofs.YtokabljeekokmaaDoor
