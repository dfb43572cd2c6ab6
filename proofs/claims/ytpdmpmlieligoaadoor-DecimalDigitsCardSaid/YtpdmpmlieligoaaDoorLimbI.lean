/-
  Contracts of package limb, sixth part: Mul.
-/
import Derived.Test.YtpdmpmlieligoaaDoorLimbG
namespace Go.Proofs.YtpdmpmlieligoaaDoor
open Go.RowKit

theorem and_mk' {v : Int} (h : U v) (c : Bool) : bits .and .u64 v (mk c) = if c then v else 0 := by
  obtain ⟨x, rfl⟩ := U_word h
  cases c
  · rw [mk_false_w, and_w, BitVec.and_zero]; rfl
  · rw [mk_true_w, and_w, BitVec.and_allOnes]; rfl
def SubWRel (W : World) (base g N off : Nat) (m : Bool) (os lb : List Int) (cr i : Value) (wr : World) : Prop :=
  ∃ (k : Nat) (os2 : List Int) (c : Int), i = .int .i64 k ∧ cr = .int .u64 c ∧ k ≤ lb.length ∧ OwnK wr base 33 .u64 (.slice (some ⟨g, 0, none⟩) N N) os2 ∧ os2.length = N ∧ Us os2 ∧ 0 ≤ c ∧ c ≤ 1 ∧
    uv os2 - M (off + k) * c = uv os - M off * (b1 m * uv (lb.take k)) ∧ Below base W wr
def UMulRel (W : World) (la lb : List Int) (i : Value) (wr : World) : Prop :=
  ∃ (k : Nat) (os : List Int), i = .int .i64 k ∧ k ≤ la.length ∧ OwnK wr W.heap.size 33 .u64 (.slice (some ⟨W.heap.size, 0, none⟩) (la.length + lb.length) (la.length + lb.length)) os ∧ os.length = la.length + lb.length ∧ Us os ∧ uv os = uv (la.take k) * uv lb ∧
    (∀ t, k + lb.length ≤ t → dgt os t = 0) ∧ Below W.heap.size W wr
def UMulRel2 (W : World) (la lb : List Int) (k : Nat) (cr j : Value) (wr : World) : Prop :=
  ∃ (t : Nat) (os : List Int) (c : Int), j = .int .i64 t ∧ cr = .int .u64 c ∧ t ≤ lb.length ∧ OwnK wr W.heap.size 33 .u64 (.slice (some ⟨W.heap.size, 0, none⟩) (la.length + lb.length) (la.length + lb.length)) os ∧ os.length = la.length + lb.length ∧ Us os ∧ U c ∧
    uv os + M (k + t) * c = uv (la.take k) * uv lb + M k * (dgt la k * uv (lb.take t)) ∧ (∀ t, k + lb.length ≤ t → dgt os t = 0) ∧ Below W.heap.size W wr
/-- What stands after the first correction. -/
def AtCorr (W : World) (la lb : List Int) (wx : World) : Prop :=
  ∃ (os : List Int) (c : Int), OwnK wx W.heap.size 33 .u64 (.slice (some ⟨W.heap.size, 0, none⟩) (la.length + lb.length) (la.length + lb.length)) os ∧ os.length = la.length + lb.length ∧ Us os ∧
    uv os = uv la * uv lb - M la.length * (b1 (neg la) * uv lb) + M (la.length + lb.length) * c ∧ Below W.heap.size W wx
end Go.Proofs.YtpdmpmlieligoaaDoor
