/-
  Contracts of package limb: the rest, and in the laws' words.
-/
import Derived.Test.YtehnpmkolabiaaaDoorLimbF
import Derived.Test.YtehnpmkolabiaaaDoorLimbI
import Derived.Test.YtehnpmkolabiaaaDoorGen3
/- Contracts of package limb, fifth part: Select, Fits. -/
namespace Go.Proofs.YtehnpmkolabiaaaDoor
open Go.RowKit
set_option maxRecDepth 100000
set_option linter.unusedVariables false
set_option linter.unusedSimpArgs false

def SelRel (W : World) (ls : List Int) (n : Nat) (b0 : Nat) (i : Value) (wr : World) : Prop :=
  ∃ (k : Nat) (os : List Int), i = .int .i64 k ∧ k ≤ n ∧ OwnK wr b0 26 .u64 (.slice (some ⟨b0, 0, none⟩) n n) os ∧ os.length = n ∧ (∀ t, t < k → dgt os t = dgt ls t) ∧ Below W.heap.size W wr
def FitRel (W : World) (la : List Int) (q : Nat) (f : Int) (o i : Value) (wr : World) : Prop :=
  ∃ (k : Nat) (u : Int), wr = W ∧ i = .int .i64 k ∧ o = .int .u64 u ∧ q + k ≤ la.length ∧ U u ∧ (u = 0 ↔ ∀ t, q ≤ t → t < q + k → dgt la t = f)
theorem fit_step {la : List Int} {q k : Nat} {u f : Int} (hu : Us la) (h0 : U u) (hf : U f) (h : u = 0 ↔ ∀ t, q ≤ t → t < q + k → dgt la t = f) :
    U (bits .or .u64 u (bits .xor .u64 (dgt la (q + k)) f)) ∧ (bits .or .u64 u (bits .xor .u64 (dgt la (q + k)) f) = 0 ↔ ∀ t, q ≤ t → t < q + (k + 1) → dgt la t = f) := by
  have hx := U_xor (hu.dgt (q + k)) hf
  refine ⟨U_or h0 hx, ?_⟩
  rw [or_zero h0 hx, h]
  have e := decide_eq_decide.1 (xor_zero (hu.dgt (q + k)) hf)
  rw [e]
  constructor
  · rintro ⟨a, b⟩ t h1 h2
    rcases Nat.lt_or_ge t (q + k) with h3 | h3
    · exact a t h1 h3
    · rw [show t = q + k by omega]; exact b
  · intro a
    exact ⟨fun t h1 h2 => a t h1 (by omega), a (q + k) (by omega) (by omega)⟩
theorem above_c (A : Option Addr) (c n : Nat) (la : List Int) (S : Nat → Prop) (w : World) (hw : Wts w) (ha : SlR w S .u64 A la) (hu : Us la) (l1 : 1 ≤ la.length) (l8 : la.length ≤ 1000) (hn : n = la.length) :
    Calls Tryd.prog 50 #[.slice A n c] w fun e w' => e = .returned (.int .u64 (mk (neg la))) ∧ ∃ n, w' = w.drewN n := by
  subst hn; exact above_any A c la S w hw ha hu l1 l8
end Go.Proofs.YtehnpmkolabiaaaDoor
/- Contracts of package limb, all together: the last one. -/
namespace Go.Proofs.YtehnpmkolabiaaaDoor
open Go.RowKit
set_option maxRecDepth 100000
set_option linter.unusedVariables false
set_option linter.unusedSimpArgs false

theorem limbMul_no (A B : Option Addr) (c d : Nat) (la lb : List Int) (w : World) (_hw : Wts w) (_ha : Arg w A c la) (_hb : Arg w B d lb) (hla : la.length ≤ 1000000) (hlb : lb.length ≤ 1000000) (h : la.length < 1 ∨ lb.length < 1 ∨ 8 < la.length + lb.length) :
    Calls Tryd.prog 70 #[.slice A la.length c, .slice B lb.length d] w (GivesNone w) := by
  have hwr : IntKind.i64.wrap ((la.length : Int) + (lb.length : Int)) = (la.length : Int) + (lb.length : Int) := i64_small (by omega) (by omega)
  by_cases hi : 1 ≤ la.length ∧ la.length ≤ 8
  · have h1 := hi.1
    have h8 := hi.2
    by_cases hj : 1 ≤ lb.length ∧ lb.length ≤ 8
    · have h2 := hj.1
      have h9 := hj.2
      have HN := Lib.hid (show 8 < la.length + lb.length by omega)
      clear h hi hj
      go_enter Tryd.func70, Tryd.ntmps70
      go_wp2_with (fail)
      refine (isInteger_yes _ _ _ _ h1 h8).mono ?_
      rintro e w' ⟨rfl, hw1⟩
      obtain rfl := hw1.symm
      go_wp2_with (fail)
      refine (isInteger_yes _ _ _ _ h2 h9).mono ?_
      rintro e w' ⟨rfl, hw1⟩
      obtain rfl := hw1.symm
      go_wp2_with (fail)
      refine (isWidth_no _ _ (by have := HN.out; omega)).mono ?_
      rintro e w' ⟨rfl, hw1⟩
      obtain rfl := hw1.symm
      go_wp2
      go_ret
      exact ⟨none, 0, rfl, Below.refl _ _⟩
    · have HN := Lib.hid (show lb.length < 1 ∨ 8 < lb.length by omega)
      clear h hi hj
      go_enter Tryd.func70, Tryd.ntmps70
      go_wp2_with (fail)
      refine (isInteger_yes _ _ _ _ h1 h8).mono ?_
      rintro e w' ⟨rfl, hw1⟩
      obtain rfl := hw1.symm
      go_wp2_with (fail)
      refine (isInteger_no _ _ _ _ HN.out).mono ?_
      rintro e w' ⟨rfl, hw1⟩
      obtain rfl := hw1.symm
      go_wp2
      go_ret
      exact ⟨none, 0, rfl, Below.refl _ _⟩
  · have HN := Lib.hid (show la.length < 1 ∨ 8 < la.length by omega)
    clear h hi
    go_enter Tryd.func70, Tryd.ntmps70
    go_wp2_with (fail)
    refine (isInteger_no _ _ _ _ HN.out).mono ?_
    rintro e w' ⟨rfl, hw1⟩
    obtain rfl := hw1.symm
    go_wp2
    go_ret
    exact ⟨none, 0, rfl, Below.refl _ _⟩
end Go.Proofs.YtehnpmkolabiaaaDoor
/- Contracts of package limb in the laws' words. -/
namespace Go.Proofs.YtehnpmkolabiaaaDoor
open Go.RowKit
set_option maxRecDepth 100000
set_option linter.unusedVariables false
set_option linter.unusedSimpArgs false

theorem LimR.arg {n : Nat} {x : Int} {v : Value} {g : Gh} {w : World} (h : LimR n x v g w) : ∃ A c, v = .slice A n c ∧ Arg w A c (limbs n x) := by
  obtain ⟨A, c, e, hc, hs⟩ := h
  exact ⟨A, c, e, hs.imp fun _ _ => trivial, limbs_us _ _, by rw [limbs_length]; exact hc⟩
theorem gOfU {c : Ctx} {g : Gh} {w : World} {n : Nat} {x : Int} {e : Ending} {w' : World} (hI : RInv c g w) (h : GivesU w (limbs n x) e w') : Gives (LimR n x) g w e w' := by
  obtain ⟨A, c, rfl, hc, hs, hb⟩ := h
  rw [limbs_length] at hc ⊢
  exact ⟨_, rfl, ⟨A, c, rfl, hc, hs.off hI⟩, hb⟩
theorem gNone {c : Ctx} {g : Gh} {w : World} {e : Ending} {w' : World} (_hI : RInv c g w) (h : GivesNone w e w') : Gives (LimR 0 0) g w e w' := by
  obtain ⟨A, cc, rfl, hb⟩ := h
  exact ⟨_, rfl, ⟨A, cc, rfl, Nat.zero_le _, SlR.nil_ _ _ _ _⟩, hb⟩
theorem svM (n : Nat) (x : Int) : sv (limbs n x) % M n = x % M n := by
  have h := sv_mod (limbs n x) (limbs_us n x)
  rw [limbs_length, limbs_uv] at h
  exact h
theorem gLimFrom {c : Ctx} {g : Gh} {w : World} {x : Int} {n : Nat} (hI : RInv c g w) (hw : Wts c.W0) (hx : S x) (h1 : 1 ≤ n) (h8 : n ≤ 8) :
    Calls Tryd.prog 53 #[.int .i64 x, .int .i64 n] w (Gives (LimR n x) g w) := (limbFrom_yes x n w (hw.below hI.below) hx h1 h8).mono fun _ _ h => gOfU hI h
theorem gLimAdd {c : Ctx} {g : Gh} {w : World} {va vb : Value} {n : Nat} {x y : Int} (hI : RInv c g w) (hw : Wts c.W0) (ha : LimR n x va g w) (hb : LimR n y vb g w) (h1 : 1 ≤ n) (h8 : n ≤ 8) :
    Calls Tryd.prog 54 #[va, vb] w (Gives (LimR n (x + y)) g w) := by
  obtain ⟨A, c1, rfl, h2⟩ := ha.arg
  obtain ⟨B, c2, rfl, h3⟩ := hb.arg
  have h := limbAdd_yes A B c1 c2 _ _ w (hw.below hI.below) h2 h3 (by rw [limbs_length]; exact h1) (by rw [limbs_length]; exact h8) (by rw [limbs_length, limbs_length])
  rw [limbs_length, limbs_length, limbs_congr (n := n) (y := x + y) (by rw [Int.add_emod, svM, svM, ← Int.add_emod])] at h
  exact h.mono fun _ _ h => gOfU hI h
theorem gLimSub {c : Ctx} {g : Gh} {w : World} {va vb : Value} {n : Nat} {x y : Int} (hI : RInv c g w) (hw : Wts c.W0) (ha : LimR n x va g w) (hb : LimR n y vb g w) (h1 : 1 ≤ n) (h8 : n ≤ 8) :
    Calls Tryd.prog 74 #[va, vb] w (Gives (LimR n (x - y)) g w) := by
  obtain ⟨A, c1, rfl, h2⟩ := ha.arg
  obtain ⟨B, c2, rfl, h3⟩ := hb.arg
  have h := limbSub_yes A B c1 c2 _ _ w (hw.below hI.below) h2 h3 (by rw [limbs_length]; exact h1) (by rw [limbs_length]; exact h8) (by rw [limbs_length, limbs_length])
  rw [limbs_length, limbs_length, limbs_congr (n := n) (y := x - y) (by rw [Int.sub_emod, svM, svM, ← Int.sub_emod])] at h
  exact h.mono fun _ _ h => gOfU hI h
theorem gLimMul {c : Ctx} {g : Gh} {w : World} {va vb : Value} {n m k : Nat} {x y : Int} (hI : RInv c g w) (hw : Wts c.W0) (ha : LimR n x va g w) (hb : LimR m y vb g w) (ex : sv (limbs n x) = x) (ey : sv (limbs m y) = y) (h1 : 1 ≤ n) (h2 : 1 ≤ m) (h8 : n + m ≤ 8) (hk : n + m = k) :
    Calls Tryd.prog 70 #[va, vb] w (Gives (LimR k (x * y)) g w) := by
  obtain ⟨A, c1, rfl, h3⟩ := ha.arg
  obtain ⟨B, c2, rfl, h4⟩ := hb.arg
  have h := limbMul_yes A B c1 c2 _ _ w (hw.below hI.below) h3 h4 (by rw [limbs_length]; exact h1) (by rw [limbs_length]; exact h2) (by rw [limbs_length, limbs_length]; exact h8)
  rw [limbs_length, limbs_length, ex, ey, hk] at h
  exact h.mono fun _ _ h => gOfU hI h
theorem gLimExtend {c : Ctx} {g : Gh} {w : World} {va : Value} {n m : Nat} {x : Int} (hI : RInv c g w) (hw : Wts c.W0) (ha : LimR n x va g w) (ex : sv (limbs n x) = x) (h1 : 1 ≤ n) (h8 : n ≤ 8) (h2 : 1 ≤ m) (h3 : m ≤ 8) :
    Calls Tryd.prog 56 #[va, .int .i64 m] w (Gives (LimR m x) g w) := by
  obtain ⟨A, c1, rfl, h4⟩ := ha.arg
  have h := limbExtend_yes A c1 _ m w (hw.below hI.below) h4 (by rw [limbs_length]; exact h1) (by rw [limbs_length]; exact h8) h2 h3
  rw [limbs_length, ex] at h
  exact h.mono fun _ _ h => gOfU hI h
theorem gLimSign {c : Ctx} {g : Gh} {w : World} {va : Value} {n : Nat} {x : Int} (hI : RInv c g w) (hw : Wts c.W0) (ha : LimR n x va g w) (ex : sv (limbs n x) = x) (h1 : 1 ≤ n) (h8 : n ≤ 8) :
    Calls Tryd.prog 36 #[va] w (Gives (SignR x) g w) := by
  obtain ⟨A, c1, rfl, h4⟩ := ha.arg
  have h := limbSign_yes A c1 _ w (hw.below hI.below) h4 (by rw [limbs_length]; exact h1) (by rw [limbs_length]; exact h8)
  rw [limbs_length, ex] at h
  refine h.mono ?_
  rintro e w' ⟨rfl, hb⟩
  exact ⟨_, rfl, ⟨_, rfl, rfl⟩, hb⟩
/-- The zero vector. -/
def VecZ (v : Value) (_g : Gh) (_w : World) : Prop := ∃ A c B d, v = .agg #[.slice A 0 c, .slice B 0 d]
theorem vecZ_firm : Firm VecZ := fun _ _ _ _ _ h _ => h
theorem vecZ_open {v : Value} {g : Gh} {w : World} (h : VecZ v g w) : ∃ A c B d, v = .agg #[.slice A 0 c, .slice B 0 d] := h
/-- A block that stood, off the boxes. -/
theorem RInv.off_at {c : Ctx} {g : Gh} {w : World} (hI : RInv c g w) {b o : Nat} {v : Value} (h : c.W.cell? ⟨b, o, none⟩ = some v) (ho : Off c.g0 b) : Off g b :=
  (hI.keeps b (World.block_lt_of_cell? c.W ⟨b, o, none⟩ h) ho).1
theorem vecL_mk {x y : Int} {a b : Value} {g : Gh} {w : World} (h1 : LimR 2 x a g w) (h2 : LimR 2 y b g w) : VecL x y (.agg #[a, b]) g w := by
  obtain ⟨A, c, rfl, hc, hs⟩ := h1
  obtain ⟨B, d, rfl, hd, ht⟩ := h2
  exact ⟨A, c, B, d, rfl, hc, hd, hs, ht⟩
end Go.Proofs.YtehnpmkolabiaaaDoor
