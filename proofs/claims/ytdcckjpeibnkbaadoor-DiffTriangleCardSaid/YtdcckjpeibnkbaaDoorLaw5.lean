/-
  The laws of layer 5, first part: limbs, alive, Coordinates.
-/
import Derived.Test.YtdcckjpeibnkbaaDoorRef05
import Derived.Test.YtdcckjpeibnkbaaDoorDiffC
import Derived.Deep.DeepCutAuto
import Derived.Deep.CutRange
namespace Go.Proofs.YtdcckjpeibnkbaaDoor
open Go.RowKit

theorem law5limbs (A : Option Addr) (c n L : Nat) (x : Int) (v : Value) (SA SV : Nat → Prop) (w : World) (ha : SlR w SA .u64 A (limbs n x)) (hv : NumR w SV L v x) (hL : L ≤ 100000) (hn : n ≤ 1000) :
    Calls Tryd.prog 12 #[.slice A n c, v, .int .i64 n] w fun e w' => e = .returned (.bool true) ∧ Below w.heap.size w w' := by
  obtain ⟨B, d, ds, rfl, hr⟩ := hv
  have HN := Lib.hid (show NumR w SV L (.agg #[.int .i64 x.sign, .slice B ds.length d]) x from ⟨B, d, ds, rfl, hr⟩)
  have hb0 := (Below.refl w.heap.size w).alloc (Nat.le_refl _) (.cells #[.int .i64 x.sign, .slice B ds.length d] 30)
  have HA := Lib.hid ha
  have hsame := fun (A2 : Option Addr) (c2 : Nat) (SB : Nat → Prop) (w : World) (h1 : SlR w SA .u64 A (limbs n x)) (h2 : SlR w SB .u64 A2 (limbs n x)) => r3same_any A A2 c c2 (limbs n x) (limbs n x) SA SB w h1 h2 (by rw [limbs_length]; omega)
  rw [limbs_length, sameB_self] at hsame
  have HSame := Lib.hid hsame
  have hlimbs := fun (w : World) (h : NumR w SV L (.agg #[.int .i64 x.sign, .slice B ds.length d]) x) => r3limbs_any (.agg #[.int .i64 x.sign, .slice B ds.length d]) x n L SV w h hL hn
  have HLimbs := Lib.hid hlimbs
  clear ha hr hsame hlimbs
  go_enter Tryd.func12, Tryd.ntmps12
  go_wp2_with (fail)
  refine (HLimbs.out _ (HN.out.next hb0)).mono ?_
  rintro e w1 ⟨A1, c1, rfl, hc1, hs1, hb1⟩
  have hbw := hb0.trans (hb1.mono (by simp))
  rw [limbs_length]
  go_wp2_with (fail)
  refine (HSame.out A1 c1 _ _ (HA.out.next hbw) hs1).mono ?_
  rintro e w2 ⟨rfl, n2, rfl⟩
  go_wp2
  go_ret
  exact ⟨rfl, below_drewN' hbw n2⟩
end Go.Proofs.YtdcckjpeibnkbaaDoor
