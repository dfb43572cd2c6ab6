/-
  Contracts of package limb in the laws' words.
-/
import Derived.Test.YtdcckjpeibnkbaaDoorLimbC
import Derived.Test.YtdcckjpeibnkbaaDoorGen3
namespace Go.Proofs.YtdcckjpeibnkbaaDoor
open Go.RowKit

theorem LimR.arg {n : Nat} {x : Int} {v : Value} {g : Gh} {w : World} (h : LimR n x v g w) : ∃ A c, v = .slice A n c ∧ Arg w A c (limbs n x) := by
  obtain ⟨A, c, e, hc, hs⟩ := h
  exact ⟨A, c, e, hs.imp fun _ _ => trivial, limbs_us _ _, by rw [limbs_length]; exact hc⟩
theorem gOfU {c : Ctx} {g : Gh} {w : World} {n : Nat} {x : Int} {e : Ending} {w' : World} (hI : RInv c g w) (h : GivesU w (limbs n x) e w') : Gives (LimR n x) g w e w' := by
  obtain ⟨A, c, rfl, hc, hs, hb⟩ := h
  rw [limbs_length] at hc ⊢
  exact ⟨_, rfl, ⟨A, c, rfl, hc, hs.off hI⟩, hb⟩
theorem gNone {c : Ctx} {g : Gh} {w : World} {e : Ending} {w' : World} (_hI : RInv c g w) (h : GivesNone w e w') : Gives (LimR 0 0) g w e w' := by
  obtain ⟨A, cc, rfl, hb⟩ := h
  exact ⟨_, rfl, ⟨A, cc, rfl, Nat.zero_le _, SlR.nil_ _ _ _ _⟩, hb⟩
theorem svM (n : Nat) (x : Int) : sv (limbs n x) % M n = x % M n := by
  have h := sv_mod (limbs n x) (limbs_us n x)
  rw [limbs_length, limbs_uv] at h
  exact h
theorem gLimFrom {c : Ctx} {g : Gh} {w : World} {x : Int} {n : Nat} (hI : RInv c g w) (hw : Wts c.W0) (hx : S x) (h1 : 1 ≤ n) (h8 : n ≤ 8) :
    Calls Tryd.prog 31 #[.int .i64 x, .int .i64 n] w (Gives (LimR n x) g w) := (limbFrom_yes x n w (hw.below hI.below) hx h1 h8).mono fun _ _ h => gOfU hI h
theorem gLimAdd {c : Ctx} {g : Gh} {w : World} {va vb : Value} {n : Nat} {x y : Int} (hI : RInv c g w) (hw : Wts c.W0) (ha : LimR n x va g w) (hb : LimR n y vb g w) (h1 : 1 ≤ n) (h8 : n ≤ 8) :
    Calls Tryd.prog 36 #[va, vb] w (Gives (LimR n (x + y)) g w) := by
  obtain ⟨A, c1, rfl, h2⟩ := ha.arg
  obtain ⟨B, c2, rfl, h3⟩ := hb.arg
  have h := limbAdd_yes A B c1 c2 _ _ w (hw.below hI.below) h2 h3 (by rw [limbs_length]; exact h1) (by rw [limbs_length]; exact h8) (by rw [limbs_length, limbs_length])
  rw [limbs_length, limbs_length, limbs_congr (n := n) (y := x + y) (by rw [Int.add_emod, svM, svM, ← Int.add_emod])] at h
  exact h.mono fun _ _ h => gOfU hI h
theorem gLimSub {c : Ctx} {g : Gh} {w : World} {va vb : Value} {n : Nat} {x y : Int} (hI : RInv c g w) (hw : Wts c.W0) (ha : LimR n x va g w) (hb : LimR n y vb g w) (h1 : 1 ≤ n) (h8 : n ≤ 8) :
    Calls Tryd.prog 30 #[va, vb] w (Gives (LimR n (x - y)) g w) := by
  obtain ⟨A, c1, rfl, h2⟩ := ha.arg
  obtain ⟨B, c2, rfl, h3⟩ := hb.arg
  have h := limbSub_yes A B c1 c2 _ _ w (hw.below hI.below) h2 h3 (by rw [limbs_length]; exact h1) (by rw [limbs_length]; exact h8) (by rw [limbs_length, limbs_length])
  rw [limbs_length, limbs_length, limbs_congr (n := n) (y := x - y) (by rw [Int.sub_emod, svM, svM, ← Int.sub_emod])] at h
  exact h.mono fun _ _ h => gOfU hI h
theorem gLimNeg {c : Ctx} {g : Gh} {w : World} {va : Value} {n : Nat} {x : Int} (hI : RInv c g w) (hw : Wts c.W0) (ha : LimR n x va g w) (h1 : 1 ≤ n) (h8 : n ≤ 8) :
    Calls Tryd.prog 38 #[va] w (Gives (LimR n (-x)) g w) := by
  obtain ⟨A, c1, rfl, h2⟩ := ha.arg
  have h := limbNeg_yes A c1 _ w (hw.below hI.below) h2 (by rw [limbs_length]; exact h1) (by rw [limbs_length]; exact h8)
  rw [limbs_length, limbs_congr (n := n) (y := -x) (by rw [← Int.zero_sub, ← Int.zero_sub x, Int.sub_emod, svM, ← Int.sub_emod])] at h
  exact h.mono fun _ _ h => gOfU hI h
theorem gLimMul {c : Ctx} {g : Gh} {w : World} {va vb : Value} {n m k : Nat} {x y : Int} (hI : RInv c g w) (hw : Wts c.W0) (ha : LimR n x va g w) (hb : LimR m y vb g w) (ex : sv (limbs n x) = x) (ey : sv (limbs m y) = y) (h1 : 1 ≤ n) (h2 : 1 ≤ m) (h8 : n + m ≤ 8) (hk : n + m = k) :
    Calls Tryd.prog 50 #[va, vb] w (Gives (LimR k (x * y)) g w) := by
  obtain ⟨A, c1, rfl, h3⟩ := ha.arg
  obtain ⟨B, c2, rfl, h4⟩ := hb.arg
  have h := limbMul_yes A B c1 c2 _ _ w (hw.below hI.below) h3 h4 (by rw [limbs_length]; exact h1) (by rw [limbs_length]; exact h2) (by rw [limbs_length, limbs_length]; exact h8)
  rw [limbs_length, limbs_length, ex, ey, hk] at h
  exact h.mono fun _ _ h => gOfU hI h
/-- The zero vector. -/
def VecZ (v : Value) (_g : Gh) (_w : World) : Prop := ∃ A c B d, v = .agg #[.slice A 0 c, .slice B 0 d]
theorem vecZ_firm : Firm VecZ := fun _ _ _ _ _ h _ => h
theorem vecZ_open {v : Value} {g : Gh} {w : World} (h : VecZ v g w) : ∃ A c B d, v = .agg #[.slice A 0 c, .slice B 0 d] := h
/-- A block that stood, off the boxes. -/
theorem RInv.off_at {c : Ctx} {g : Gh} {w : World} (hI : RInv c g w) {b o : Nat} {v : Value} (h : c.W.cell? ⟨b, o, none⟩ = some v) (ho : Off c.g0 b) : Off g b :=
  (hI.keeps b (World.block_lt_of_cell? c.W ⟨b, o, none⟩ h) ho).1
theorem vecL_mk {x y : Int} {a b : Value} {g : Gh} {w : World} (h1 : LimR 2 x a g w) (h2 : LimR 2 y b g w) : VecL x y (.agg #[a, b]) g w := by
  obtain ⟨A, c, rfl, hc, hs⟩ := h1
  obtain ⟨B, d, rfl, hd, ht⟩ := h2
  exact ⟨A, c, B, d, rfl, hc, hd, hs, ht⟩
end Go.Proofs.YtdcckjpeibnkbaaDoor
