/-
  Law DiffVectors, whole.
-/
import Derived.Test.YtdcckjpeibnkbaaDoorLaw5UB
import Derived.Test.YtdcckjpeibnkbaaDoorLaw5UC
import Derived.Test.YtdcckjpeibnkbaaDoorLaw5UD
namespace Go.Proofs.YtdcckjpeibnkbaaDoor
open Go.RowKit

/-- A vector that came in. -/
theorem vecL_in {w : World} {S : Nat → Prop} {A B : Option Addr} {c d : Nat} {lx ly : List Int} (h1 : SlR w S .u64 A lx) (h2 : SlR w S .u64 B ly) (u1 : Us lx) (u2 : Us ly) (l1 : lx.length = 2) (l2 : ly.length = 2) (hc : lx.length ≤ c) (hd : ly.length ≤ d) :
    VecL (sv lx) (sv ly) (.agg #[.slice A 2 c, .slice B 2 d]) (fun _ => none) w ∧ sv (limbs 2 (sv lx)) = sv lx ∧ sv (limbs 2 (sv ly)) = sv ly := by
  have e1 := limbs_sv u1
  have e2 := limbs_sv u2
  rw [l1] at e1
  rw [l2] at e2
  refine ⟨⟨A, c, B, d, rfl, by omega, by omega, ?_, ?_⟩, by rw [e1], by rw [e2]⟩
  · rw [e1]; exact h1.imp fun _ _ _ h => by cases h
  · rw [e2]; exact h2.imp fun _ _ _ h => by cases h
theorem law_diffVectors (A0 B0 A1 B1 : Option Addr) (c0 d0 c1 d1 : Nat) (l0 m0 l1 m1 : List Int) (w : World) (hw : Wts w) (h0 : Arg w A0 c0 l0) (k0 : Arg w B0 d0 m0) (h1 : Arg w A1 c1 l1) (k1 : Arg w B1 d1 m1) :
    Calls Tryd.prog 5 #[.agg #[.slice A0 l0.length c0, .slice B0 m0.length d0], .agg #[.slice A1 l1.length c1, .slice B1 m1.length d1]] w fun e w' => e = .returned (.bool true) ∧ Below w.heap.size w w' := by
  by_cases hu : l0.length = 2 ∧ m0.length = 2
  · obtain ⟨hu, eu1, eu2⟩ := vecL_in h0.sl k0.sl h0.us k0.us hu.1 hu.2 h0.cap k0.cap
    rename_i hul
    rw [hul.1, hul.2]
    by_cases hv : l1.length = 2 ∧ m1.length = 2
    · obtain ⟨hv', ev1, ev2⟩ := vecL_in h1.sl k1.sl h1.us k1.us hv.1 hv.2 h1.cap k1.cap
      rw [hv.1, hv.2]
      exact law5V_D A0 B0 A1 B1 c0 d0 c1 d1 _ _ _ _ w hw hu eu1 eu2 hv' ev1 ev2
    · exact law5V_C A0 B0 A1 B1 c0 d0 c1 d1 _ _ _ _ w hw hv hu eu1 eu2
  · exact law5V_B A0 B0 A1 B1 c0 d0 c1 d1 _ _ _ _ w hw hu
end Go.Proofs.YtdcckjpeibnkbaaDoor
