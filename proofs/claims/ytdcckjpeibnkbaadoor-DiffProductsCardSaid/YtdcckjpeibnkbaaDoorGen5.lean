/-
  The contracts of package diff in the laws' words.
-/
import Derived.Test.YtdcckjpeibnkbaaDoorLaw5
namespace Go.Proofs.YtdcckjpeibnkbaaDoor
open Go.RowKit

theorem gLawLimbs {c : Ctx} {g : Gh} {w : World} {v u : Value} {n L : Nat} {x y : Int} (_hI : RInv c g w) (h : LimR n x v g w) (k : NumG L y u g w) (hL : L ≤ 100000) (hn : n ≤ 1000) (hxy : x = y) :
    Calls Tryd.prog 12 #[v, u, .int .i64 n] w (Gives (fun v _ _ => v = .bool true) g w) := by
  subst hxy
  obtain ⟨A, c, rfl, _, hs⟩ := h
  refine (law5limbs A c n L x u (Off g) (Off g) w hs k hL hn).mono ?_
  rintro e w' ⟨rfl, hb⟩
  exact ⟨_, rfl, rfl, hb⟩
end Go.Proofs.YtdcckjpeibnkbaaDoor
