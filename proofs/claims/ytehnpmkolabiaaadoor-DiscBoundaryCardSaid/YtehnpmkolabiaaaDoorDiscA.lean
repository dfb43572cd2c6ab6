/-
  Copying three points into an array of one's own; circle.Side and orient.Collinear for points.
-/
import Derived.Test.YtehnpmkolabiaaaDoorDiscM
import Derived.Test.YtehnpmkolabiaaaDoorInsP
import Derived.Test.YtehnpmkolabiaaaDoorCircleC
import Derived.Test.YtehnpmkolabiaaaDoorOrientC
import Derived.Test.YtehnpmkolabiaaaDoorMaskB
namespace Go.Proofs.YtehnpmkolabiaaaDoor
open Go.RowKit Go.Maps
set_option maxRecDepth 100000
set_option linter.unusedVariables false
set_option linter.unusedSimpArgs false

theorem cirSide_d (a b c d : Pt) (w : World) (hw : Wts w) (ha : S a.x ∧ S a.y) (hb : S b.x ∧ S b.y) (hc : S c.x ∧ S c.y) (hd : S d.x ∧ S d.y) (r : Int) (hr : sideC a b c d = r) :
    Calls Tryd.prog 22 #[.agg #[.int .i64 a.x, .int .i64 a.y], .agg #[.int .i64 b.x, .int .i64 b.y], .agg #[.int .i64 c.x, .int .i64 c.y], .agg #[.int .i64 d.x, .int .i64 d.y]] w fun e w' => e = .returned (.int .i64 r) ∧ Below w.heap.size w w' := by
  subst hr
  refine (gCircleSide (RInv.start0 (Ctx.ok_none (Below.refl w.heap.size w))) hw ha.1 ha.2 hb.1 hb.2 hc.1 hc.2 hd.1 hd.2).mono ?_
  rintro e w' ⟨v, rfl, ⟨s, rfl, hs⟩, hb⟩
  exact ⟨by rw [hs]; rfl, hb⟩
theorem orCol_d (a b c : Pt) (w : World) (hw : Wts w) (ha : S a.x ∧ S a.y) (hb : S b.x ∧ S b.y) (hc : S c.x ∧ S c.y) (m : Int) (hm : mk (decide (sgnP a b c = 0)) = m) :
    Calls Tryd.prog 20 #[.agg #[.int .i64 a.x, .int .i64 a.y], .agg #[.int .i64 b.x, .int .i64 b.y], .agg #[.int .i64 c.x, .int .i64 c.y]] w fun e w' => e = .returned (.int .u64 m) ∧ Below w.heap.size w w' := by
  have hd : (sgnP a b c = 0) = (det a.x a.y b.x b.y c.x c.y = 0) := by rw [sgn_det]; exact propext Int.sign_eq_zero_iff_zero
  subst hm
  refine (gOrientCollinear (RInv.start0 (Ctx.ok_none (Below.refl w.heap.size w))) hw ha.1 ha.2 hb.1 hb.2 hc.1 hc.2).mono ?_
  rintro e w' ⟨v, rfl, hv, hb⟩
  exact ⟨by rw [hv, decide_eq_decide.2 (iff_of_eq hd)], hb⟩
/-- A row whose elements were copied into an array of one's own. -/
theorem own_ptA {t : TypeId} {w : World} {base g c n : Nat} {l : List Pt} (hn : l.length = n) (h : w.ownsRow base t 2 (.slice (some ⟨g, 0, none⟩) n c) n (l.flatMap ptC)) {k : Nat} (hk : k < l.length) :
    w.cell? ⟨g, k * 2, none⟩ = some (.int .i64 (l[k]'hk).x) ∧ w.cell? ⟨g, k * 2 + 1, none⟩ = some (.int .i64 (l[k]'hk).y) := by
  have h1 := flatC_at (C := ptC) (k := 2) (fun _ => rfl) l k _ (List.getElem?_eq_getElem hk)
  exact ⟨(World.ownsRow.cellAt h (k * 2) (by omega)).trans (h1 0 (by decide)), (World.ownsRow.cellAt h (k * 2 + 1) (by omega)).trans (h1 1 (by decide))⟩
theorem copy3 {t : TypeId} (W : World) (A : Option Addr) (c : Nat) (l : List Pt) (T : Nat → Prop) (ha : RowR W T 2 ptC A l) (h3 : l.length = 3) :
    ∃ W2, (∀ ty, (Builtin.copy_ #[22, 22] ty #[.slice (some ⟨W.heap.size, 0, none⟩) 3 3, .slice A 3 c]).run Tryd.prog (W.alloc (.cells #[.int .i64 0, .int .i64 0, .int .i64 0, .int .i64 0, .int .i64 0, .int .i64 0] t)) = .ok (goInt (3 : Nat)) W2) ∧ Below W.heap.size W W2 ∧ W.heap.size < W2.heap.size ∧ W2.ownsRow W.heap.size t 2 (.slice (some ⟨W.heap.size, 0, none⟩) 3 3) 3 (l.flatMap ptC) := by
  obtain ⟨b, o, rfl, _, _, _⟩ := ha.pt_ (k := 0) (by omega)
  have hown : (W.alloc (.cells #[.int .i64 0, .int .i64 0, .int .i64 0, .int .i64 0, .int .i64 0, .int .i64 0] t)).ownsRow W.heap.size t 2 (.slice (some ⟨W.heap.size, 0, none⟩) 3 3) 3 [.int .i64 0, .int .i64 0, .int .i64 0, .int .i64 0, .int .i64 0, .int .i64 0] :=
    ⟨rfl, .inr ⟨W.heap.size, 3, _, rfl, Nat.le_refl _, heap_alloc_new W _, Nat.le_refl _, by decide, rfl, rfl⟩⟩
  have hbA : Below W.heap.size W (W.alloc (.cells #[.int .i64 0, .int .i64 0, .int .i64 0, .int .i64 0, .int .i64 0, .int .i64 0] t)) := (Below.refl _ _).alloc (Nat.le_refl _) _
  have hlf : (l.flatMap ptC).length = 6 := by rw [flatC_len (C := ptC) (k := 2) (fun _ => rfl), h3]
  refine ⟨_, fun ty => run_copy_k _ _ _ ty 24 2 W.heap.size 0 3 3 ⟨b, o, none⟩ 3 c (l.flatMap ptC) 3 Tryd.underlying22 sizePt rfl hlf (fun j v hj => (ha.next hbA).cells_ (fun _ => rfl) (by decide) j v hj) (fun j hj => ?_) (fun j hj => World.ownsRow.frozenAt hown _) (one_cellsP l), below_setCells (Nat.le_refl _) _ _ _ hbA, ?_, ?_⟩
  · have hj6 : 0 + j < 6 := by omega
    rw [World.ownsRow.cellAt hown _ (by omega), List.getElem?_eq_getElem (by simpa using hj6)]; rfl
  · exact (World.ownsRow.lt (own_over (l.flatMap ptC) 0 _ _ hown) _ rfl).2
  · have h := own_over (l.flatMap ptC) 0 _ _ hown
    have e : over [.int .i64 0, .int .i64 0, .int .i64 0, .int .i64 0, .int .i64 0, .int .i64 0] 0 (l.flatMap ptC) = l.flatMap ptC := by
      match l, h3 with
      | [p, q, r], _ => rfl
    rw [e] at h
    exact h
end Go.Proofs.YtehnpmkolabiaaaDoor
