/-
  The walks of the laws of layer 3, second part.
-/
import Derived.Test.YtkdiglabjcfjfaaDoorLaw3
namespace Go.Proofs.YtkdiglabjcfjfaaDoor
open Go.RowKit

/-- What 'binary' accepts. -/
def Pair (n m : Nat) : Prop := 1 ≤ n ∧ n ≤ 8 ∧ n = m
set_option maxHeartbeats 1000000 in
theorem binary_yes (G A B : Option Addr) (gc c d : Nat) (gs : List Int) (n m : Nat) (z : Int) (vz : Value) (L : Nat) (SG SZ : Nat → Prop) (w : World) (hg : SlR w SG .u64 G gs) (hgs : gs = limbs n z) (h : Pair n m) (hz : NumR w SZ L vz z) (hL : L ≤ 100000) :
    Calls Tryd.prog 19 #[.slice G gs.length gc, .slice A n c, .slice B m d, vz] w fun e w' => e = .returned (.bool true) ∧ Below w.heap.size w w' := by
  obtain ⟨h1, h8, rfl⟩ := h
  have hz' := hz
  obtain ⟨Z, zc, dz, rfl, _⟩ := hz
  have hb1 : Below w.heap.size w (w.alloc (.cells #[.int .i64 z.sign, .slice Z dz.length zc] 31)) := (Below.refl _ _).alloc (Nat.le_refl _) _
  have hz1 := hz'.next hb1
  have hg1 := hg.next hb1
  have t1 : ((n : Int) != (n : Int)) = false := by simp
  have HG := Lib.hid hgs
  have hgl : gs.length ≤ 1000000 := by rw [hgs, limbs_length]; omega
  clear hgs
  go_enter Tryd.func19, Tryd.ntmps19
  go_wp2_with (fail)
  refine (r3is_yes A n c _ h1 h8).mono ?_
  rintro e w' ⟨rfl, rfl⟩
  go_wp2_with (fail)
  refine (r3is_yes B n d _ h1 h8).mono ?_
  rintro e w' ⟨rfl, rfl⟩
  go_wp2_with (fail)
  refine (r3limbs_any _ z n L SZ _ hz1 hL (by omega)).mono ?_
  rintro e w2 ⟨A2, c2, rfl, hc2, hs2, hb2⟩
  go_wp2_with (fail)
  refine (same_t G A2 gc c2 gs (limbs n z) _ _ _ (hg1.next hb2) hs2 hgl HG.out).mono ?_
  rintro e w' ⟨rfl, n6, rfl⟩
  go_wp2
  go_ret
  exact ⟨rfl, below_drewN' (hb1.trans (hb2.mono hb1.size)) n6⟩
theorem not_pair {n m : Nat} (h : ¬ Pair n m) : (n = 0 ∨ 8 < n) ∨ (1 ≤ n ∧ n ≤ 8 ∧ (m = 0 ∨ 8 < m)) ∨ (1 ≤ n ∧ n ≤ 8 ∧ 1 ≤ m ∧ m ≤ 8 ∧ n ≠ m) := by
  unfold Pair at h; omega
set_option maxHeartbeats 2000000 in
theorem binary_no (G A B : Option Addr) (gc c d n m : Nat) (vz : Value) (sz : Int) (Z : Option Addr) (k zc : Nat) (w : World) (h : ¬ Pair n m) (hv : vz = .agg #[.int .i64 sz, .slice Z k zc]) :
    Calls Tryd.prog 19 #[.slice G 0 gc, .slice A n c, .slice B m d, vz] w fun e w' => e = .returned (.bool true) ∧ Below w.heap.size w w' := by
  subst hv
  have hb1 : Below w.heap.size w (w.alloc (.cells #[.int .i64 sz, .slice Z k zc] 31)) := (Below.refl _ _).alloc (Nat.le_refl _) _
  rcases not_pair h with h1 | ⟨h1, h2, h3⟩ | ⟨h1, h2, h3, h4, h5⟩
  · go_enter Tryd.func19, Tryd.ntmps19
    go_wp2_with (fail)
    refine (r3is_no A n c _ h1).mono ?_
    rintro e w' ⟨rfl, rfl⟩
    go_wp2
    go_ret
    exact ⟨rfl, hb1⟩
  · go_enter Tryd.func19, Tryd.ntmps19
    go_wp2_with (fail)
    refine (r3is_yes A n c _ h1 h2).mono ?_
    rintro e w' ⟨rfl, rfl⟩
    go_wp2_with (fail)
    refine (r3is_no B m d _ h3).mono ?_
    rintro e w' ⟨rfl, rfl⟩
    go_wp2
    go_ret
    exact ⟨rfl, hb1⟩
  · have t1 : ((n : Int) != (m : Int)) = true := by rw [bne_iff_ne]; omega
    clear h5
    go_enter Tryd.func19, Tryd.ntmps19
    go_wp2_with (fail)
    refine (r3is_yes A n c _ h1 h2).mono ?_
    rintro e w' ⟨rfl, rfl⟩
    go_wp2_with (fail)
    refine (r3is_yes B m d _ h3 h4).mono ?_
    rintro e w' ⟨rfl, rfl⟩
    go_wp2
    go_ret
    exact ⟨rfl, hb1⟩
end Go.Proofs.YtkdiglabjcfjfaaDoor
