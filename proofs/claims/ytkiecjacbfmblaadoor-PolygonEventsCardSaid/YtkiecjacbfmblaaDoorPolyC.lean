/-
  Contracts of package polygon, with no tape.
-/
import Derived.Test.YtkiecjacbfmblaaDoorPolyV
import Derived.Test.YtkiecjacbfmblaaDoorLaid
namespace Go.Proofs.YtkiecjacbfmblaaDoor
open Go.RowKit Go.Maps
set_option maxRecDepth 100000
set_option linter.unusedVariables false
set_option linter.unusedSimpArgs false

/-- With no tape. -/
theorem polyValid_n {Q : Nat → Prop} {A : Option Addr} {n c : Nat} {l : List Pt} {r : Bool} {w : World} (hw : Wts w) (ha : RowR w Q 2 ptC A l) (hn : n = l.length) (hl : n ≤ 1000000) (hS : SsP l) (hr : validP l = r) :
    Calls Tryd.prog 10 #[.pointer none, .slice A n c] w fun e w' => e = .returned (.int .u64 (mk r)) ∧ Below w.heap.size w w' :=
  (polyValid_c (.pointer none) [] (fun _ => False) Q A n c l r w (fun W hm => hw.below hm.to_below) (.inl ⟨rfl, rfl⟩) (by simp) ha (fun _ _ h => h) hn hl hS hr).mono fun e w' ⟨h1, _, h2⟩ => ⟨h1, h2.to_below⟩
theorem polyLocate_n {Q : Nat → Prop} {A : Option Addr} {n c : Nat} {l : List Pt} {p : Pt} {r : Int} {w : World} (hw : Wts w) (ha : RowR w Q 2 ptC A l) (hn : n = l.length) (hl : n ≤ 1000000) (hS : SsP l) (hp : S p.x ∧ S p.y) (hr : locP l p = r) :
    Calls Tryd.prog 15 #[.pointer none, .slice A n c, .agg #[.int .i64 p.x, .int .i64 p.y]] w fun e w' => e = .returned (.int .i64 r) ∧ Below w.heap.size w w' :=
  (polyLocate_c (.pointer none) [] (fun _ => False) Q A n c l p r w (fun W hm => hw.below hm.to_below) (.inl ⟨rfl, rfl⟩) (by simp) ha (fun _ _ h => h) hn hl hS hp hr).mono fun e w' ⟨h1, _, h2⟩ => ⟨h1, h2.to_below⟩
end Go.Proofs.YtkiecjacbfmblaaDoor
