/-
  The contracts of package disc with no tape, and the reference's Side for points.
-/
import Derived.Test.YtehnpmkolabiaaaDoorDiscM
import Derived.Test.YtehnpmkolabiaaaDoorDiscB
import Derived.Test.YtehnpmkolabiaaaDoorLaid
namespace Go.Proofs.YtehnpmkolabiaaaDoor
open Go.RowKit Go.Maps
set_option maxRecDepth 100000
set_option linter.unusedVariables false
set_option linter.unusedSimpArgs false

theorem ref7Side_d (a b c d : Pt) (w : World) (ha : S a.x ∧ S a.y) (hb : S b.x ∧ S b.y) (hc : S c.x ∧ S c.y) (hd : S d.x ∧ S d.y) (r : Int) (hr : sideC a b c d = r) :
    Calls Tryd.prog 23 #[.agg #[.int .i64 a.x, .int .i64 a.y], .agg #[.int .i64 b.x, .int .i64 b.y], .agg #[.int .i64 c.x, .int .i64 c.y], .agg #[.int .i64 d.x, .int .i64 d.y]] w fun e w' => e = .returned (.int .i64 r) ∧ Below w.heap.size w w' := by
  subst hr
  refine (gRef7Side (RInv.start0 (Ctx.ok_none (Below.refl w.heap.size w))) ha.1 ha.2 hb.1 hb.2 hc.1 hc.2 hd.1 hd.2).mono ?_
  rintro e w' ⟨v, rfl, ⟨s, rfl, hs⟩, hb⟩
  exact ⟨by rw [hs]; rfl, hb⟩
/-- With no tape. -/
theorem discValid_n {Q : Nat → Prop} {A : Option Addr} {n c : Nat} {l : List Pt} {r : Bool} {w : World} (hw : Wts w) (ha : RowR w Q 2 ptC A l) (hn : n = l.length) (hS : SsP l) (hr : validD l = r) :
    Calls Tryd.prog 10 #[.pointer none, .slice A n c] w fun e w' => e = .returned (.int .u64 (mk r)) ∧ Below w.heap.size w w' :=
  (discValid_c (.pointer none) [] (fun _ => False) Q A n c l r w (fun W hm => hw.below hm.to_below) (.inl ⟨rfl, rfl⟩) (by simp) ha (fun _ _ h => h) hn hS hr).mono fun e w' ⟨h1, _, h2⟩ => ⟨h1, h2.to_below⟩
theorem discLocate_n {Q : Nat → Prop} {A : Option Addr} {n c : Nat} {l : List Pt} {p : Pt} {r : Int} {w : World} (hw : Wts w) (ha : RowR w Q 2 ptC A l) (hn : n = l.length) (hS : SsP l) (hp : S p.x ∧ S p.y) (hr : locD l p = r) :
    Calls Tryd.prog 13 #[.pointer none, .slice A n c, .agg #[.int .i64 p.x, .int .i64 p.y]] w fun e w' => e = .returned (.int .i64 r) ∧ Below w.heap.size w w' :=
  (discLocate_c (.pointer none) [] (fun _ => False) Q A n c l p r w (fun W hm => hw.below hm.to_below) (.inl ⟨rfl, rfl⟩) (by simp) ha (fun _ _ h => h) hn hS hp hr).mono fun e w' ⟨h1, _, h2⟩ => ⟨h1, h2.to_below⟩
end Go.Proofs.YtehnpmkolabiaaaDoor
