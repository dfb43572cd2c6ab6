/-
  Points in rows; the reference's orientation.
-/
import Derived.Test.YtehnpmkolabiaaaDoorPoly
import Derived.Test.YtehnpmkolabiaaaDoorRow
import Derived.Test.YtehnpmkolabiaaaDoorRef06
import Derived.Test.YtehnpmkolabiaaaDoorTail
namespace Go.Proofs.YtehnpmkolabiaaaDoor
open Go.RowKit
set_option maxRecDepth 100000
set_option linter.unusedVariables false
set_option linter.unusedSimpArgs false

theorem infoPt : (Tryd.prog.info? 24).map (fun i => (i.zero, i.size, i.bytes)) = some (some (.agg #[.int .i64 0, .int .i64 0]), 2, 16) := by kernel_rfl
theorem elemPt : ElemT Tryd.prog 22 24 2 ptC := by
  obtain ⟨i0, hi, hz0, hz1, hz2⟩ := info_parts infoPt
  exact ⟨Tryd.underlying22, ⟨i0, _, hi, hz0, hz1, by rw [hz2]; decide, rfl⟩, by decide, fun _ => rfl, fun x u hu => by simp [ptC] at hu; rcases hu with rfl | rfl <;> rfl⟩
theorem RowR.pt_ {w : World} {S : Nat → Prop} {A : Option Addr} {l : List Pt} (h : RowR w S 2 ptC A l) {k : Nat} (hk : k < l.length) :
    ∃ b o, A = some ⟨b, o, none⟩ ∧ S b ∧ w.cell? ⟨b, o + k * 2, none⟩ = some (.int .i64 (l[k]'hk).x) ∧ w.cell? ⟨b, o + k * 2 + 1, none⟩ = some (.int .i64 (l[k]'hk).y) := by
  obtain ⟨b, o, e, hS, hc⟩ := h.at_ hk
  exact ⟨b, o, e, hS, hc 0 _ rfl, hc 1 _ rfl⟩
/-- The same, with the address known. -/
theorem RowR.pt2 {w : World} {S : Nat → Prop} {b o : Nat} {l : List Pt} (h : RowR w S 2 ptC (some ⟨b, o, none⟩) l) {k : Nat} (hk : k < l.length) :
    w.cell? ⟨b, o + k * 2, none⟩ = some (.int .i64 (Go.Proofs.YtehnpmkolabiaaaDoor.at_ l k).x) ∧ w.cell? ⟨b, o + k * 2 + 1, none⟩ = some (.int .i64 (Go.Proofs.YtehnpmkolabiaaaDoor.at_ l k).y) := by
  obtain ⟨b', o', e, _, h1, h2⟩ := h.pt_ hk
  injection e with e
  injection e with e1 e2
  subst e1 e2
  rw [at_lt hk]
  exact ⟨h1, h2⟩
theorem SsP.ss {l : List Pt} (h : SsP l) {k : Nat} (hk : k < l.length) : S (Go.Proofs.YtehnpmkolabiaaaDoor.at_ l k).x ∧ S (Go.Proofs.YtehnpmkolabiaaaDoor.at_ l k).y := by rw [at_lt hk]; exact h _ (List.getElem_mem hk)
theorem own_pt2 {w : World} {base g c n : Nat} {l : List Pt} (hn : l.length = n) (h : w.ownsRow base 24 2 (.slice (some ⟨g, 0, none⟩) n c) n (l.flatMap ptC)) {k : Nat} (hk : k < l.length) :
    w.cell? ⟨g, k * 2, none⟩ = some (.int .i64 (l[k]'hk).x) ∧ w.cell? ⟨g, k * 2 + 1, none⟩ = some (.int .i64 (l[k]'hk).y) ∧ w.frozen? ⟨g, k * 2, none⟩ = false ∧ w.frozen? ⟨g, k * 2 + 1, none⟩ = false := by
  have h1 := flatC_at (C := ptC) (k := 2) (fun _ => rfl) l k _ (List.getElem?_eq_getElem hk)
  exact ⟨(World.ownsRow.cellAt h (k * 2) (by omega)).trans (h1 0 (by decide)), (World.ownsRow.cellAt h (k * 2 + 1) (by omega)).trans (h1 1 (by decide)), World.ownsRow.frozenAt h _, World.ownsRow.frozenAt h _⟩
theorem flat_setP (x : Pt) : ∀ (l : List Pt) (k : Nat), (l.set k x).flatMap ptC = ((l.flatMap ptC).set (k * 2) (.int .i64 x.x)).set (k * 2 + 1) (.int .i64 x.y)
  | [], k => by simp
  | y :: l, 0 => by simp [ptC]
  | y :: l, k + 1 => by
    rw [List.set_cons_succ, List.flatMap_cons, flat_setP x l k, List.flatMap_cons, show (k + 1) * 2 = k * 2 + 2 by omega]
    simp [ptC]
theorem own_setP {w : World} {base g c n : Nat} {l : List Pt} (h : w.ownsRow base 24 2 (.slice (some ⟨g, 0, none⟩) n c) n (l.flatMap ptC)) (k : Nat) (x : Pt) :
    ((w.setCell ⟨g, k * 2, none⟩ (.int .i64 x.x)).setCell ⟨g, k * 2 + 1, none⟩ (.int .i64 x.y)).ownsRow base 24 2 (.slice (some ⟨g, 0, none⟩) n c) n ((l.set k x).flatMap ptC) := by
  rw [flat_setP]
  exact (World.ownsRow.stored (World.ownsRow.stored h _ _).1 _ _).1
theorem ref6Sign_d (a b c : Pt) (w : World) (ha : S a.x ∧ S a.y) (hb : S b.x ∧ S b.y) (hc : S c.x ∧ S c.y) (r : Int) (hr : sgnP a b c = r) :
    Calls Tryd.prog 21 #[.agg #[.int .i64 a.x, .int .i64 a.y], .agg #[.int .i64 b.x, .int .i64 b.y], .agg #[.int .i64 c.x, .int .i64 c.y]] w fun e w' => e = .returned (.int .i64 r) ∧ Below w.heap.size w w' := by
  subst hr
  refine (gRef6Sign (RInv.start0 (Ctx.ok_none (Below.refl w.heap.size w))) ha.1 ha.2 hb.1 hb.2 hc.1 hc.2).mono ?_
  rintro e w' ⟨v, rfl, ⟨s, rfl, hs⟩, hb⟩
  exact ⟨by rw [hs]; rfl, hb⟩
end Go.Proofs.YtehnpmkolabiaaaDoor
