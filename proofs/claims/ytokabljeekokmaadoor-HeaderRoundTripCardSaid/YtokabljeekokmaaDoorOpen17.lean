/-
  Opening headers and bytes that came in.
-/
import Derived.Test.YtokabljeekokmaaDoorOpen16
import Derived.SizedLaws
namespace Go.Proofs.YtokabljeekokmaaDoor
open Go.RowKit Go.ChangeShapes Go.WideShapes
set_option maxRecDepth 100000
set_option linter.unusedVariables false
set_option linter.unusedSimpArgs false

/-- A header in memory. -/
structure Hx where
  op : Int
  vx : Int
  A : Option Addr
  c : Nat
  l : List Rg
  pts : Int
def hdC (x : Hx) : List Value := [.int .i64 x.op, .int .i64 x.vx, .slice x.A x.l.length x.c, .int .i64 x.pts]
structure HxOk (W : World) (x : Hx) : Prop where
  op : (Lit.int .i64 x.op).wf = true
  vx : (Lit.int .i64 x.vx).wf = true
  pts : (Lit.int .i64 x.pts).wf = true
  row : RowR W (fun _ => True) 3 rgC x.A x.l
  regs : ∀ r ∈ x.l, RegOk W (fun _ => True) r
  cap : x.l.length ≤ x.c
  max : x.c ≤ maxLen
section
variable {H : Type} {enc : TypeId × Value → H} {P : Program} {W : World} {base : Nat} {held : Bool}
theorem trod_struct4x {t : TypeId} {f0 f1 f2 f3 : Field} {spare : Nat → Bool} {fuel : Nat} {cs : List Value} {x : DataW H × List MemPlace} (ht : P.underlying t = some (.struct #[f0, f1, f2, f3])) (h : DataW.trod enc P W base spare held fuel t cs = some x) :
    ∃ y0 y1 y2 y3 n, cs.length = P.cellsOf t ∧ DataW.trod enc P W base spare held n f0.type ((cs.drop f0.offset).take (P.cellsOf f0.type)) = some y0 ∧
      DataW.trod enc P W base spare held n f1.type ((cs.drop f1.offset).take (P.cellsOf f1.type)) = some y1 ∧ DataW.trod enc P W base spare held n f2.type ((cs.drop f2.offset).take (P.cellsOf f2.type)) = some y2 ∧ DataW.trod enc P W base spare held n f3.type ((cs.drop f3.offset).take (P.cellsOf f3.type)) = some y3 := by
  obtain ⟨xs, n, _, rfl, hl, hlen, hf⟩ := DataW.trod_struct ht h
  match xs, hlen with
  | [y0, y1, y2, y3], _ => exact ⟨y0, y1, y2, y3, n, hl, by simpa using hf 0 f0 rfl, by simpa using hf 1 f1 rfl, by simpa using hf 2 f2 rfl, by simpa using hf 3 f3 rfl⟩
theorem hd_cells {e er : TypeId} {f0 f1 f2 f3 : Field} {n : Nat} {cs : List Value} {y : DataW H × List MemPlace} (hu : P.underlying e = some (.struct #[f0, f1, f2, f3])) (h0 : P.underlying f0.type = some (.int .i64)) (h1 : P.underlying f1.type = some (.int .i64)) (h2 : P.underlying f2.type = some (.slice er)) (h3 : P.underlying f3.type = some (.int .i64))
    (o : f0.offset = 0 ∧ f1.offset = 1 ∧ f2.offset = 2 ∧ f3.offset = 3) (c : P.cellsOf f0.type = 1 ∧ P.cellsOf f1.type = 1 ∧ P.cellsOf f2.type = 1 ∧ P.cellsOf f3.type = 1) (ct : P.cellsOf e = 4) (cr : P.cellsOf er = 3)
    (hE : ∀ n cs y, DataW.trod enc P W base (fun _ => true) held n er cs = some y → ∃ r : Rg, cs = rgC r ∧ RegOk W (fun _ => True) r)
    (h : DataW.trod enc P W base (fun _ => true) held n e cs = some y) : ∃ x : Hx, cs = hdC x ∧ HxOk W x := by
  obtain ⟨y0, y1, y2, y3, m, hl, k0, k1, k2, k3⟩ := trod_struct4x hu h
  rw [ct] at hl
  rw [o.1, c.1] at k0
  rw [o.2.1, c.2.1] at k1
  rw [o.2.2.1, c.2.2.1] at k2
  rw [o.2.2.2, c.2.2.2] at k3
  match cs, hl with
  | [v0, v1, v2, v3], _ =>
    obtain ⟨a, ha, _, wa⟩ := DataW.trod_int h0 k0
    obtain ⟨b, hb, _, wb⟩ := DataW.trod_int h1 k1
    obtain ⟨d, hd, _, wd⟩ := DataW.trod_int h3 k3
    obtain ⟨A, cp, l, hs, hrow, hwf, hlc, hmx, _⟩ := row_cells (k := 3) rgC (fun x => RegOk W (fun _ => True) x) h2 cr (by decide) hE k2
    simp [Value.cells] at ha hb hd hs
    exact ⟨⟨a, b, A, cp, l, d⟩, by rw [ha, hb, hd, hs]; rfl, ⟨wa, wb, wd, hrow, hwf, hlc, hmx⟩⟩
/-- What a slice that came in weighs. -/
theorem slice_room {t e : TypeId} {A : Option Addr} {n c : Nat} {d : DataW H} {p : List MemPlace} (ht : P.underlying t = some (.slice e)) (h : DataW.Trod enc P W base (fun _ => true) held t (.slice A n c) d p) :
    c = 0 ∨ ∃ elems spare, d = .slice elems spare ∧ elems.length + spare.length = c := by
  obtain ⟨fuel, hf⟩ := h
  rcases Go.Deep.open_slice ht hf with ⟨hcs, _⟩ | ⟨a, len, cap, m, n', D, Pl, hcs, _, hl, hm, hmm, hd, hi⟩
  · simp [Value.cells] at hcs
    exact .inl hcs.2.2
  · simp [Value.cells] at hcs
    obtain ⟨_, rfl, rfl⟩ := hcs
    have hmm : m = c := by simpa using hmm
    subst hmm
    injection hd with hd _
    exact .inr ⟨_, _, hd, by simp; omega⟩
end
end Go.Proofs.YtokabljeekokmaaDoor
