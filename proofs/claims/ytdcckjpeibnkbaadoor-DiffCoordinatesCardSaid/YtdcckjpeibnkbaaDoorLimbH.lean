/-
  Contracts of package limb, fifth part: Select, Fits.
-/
import Derived.Test.YtdcckjpeibnkbaaDoorLimbG
namespace Go.Proofs.YtdcckjpeibnkbaaDoor
open Go.RowKit

def SelRel (W : World) (ls : List Int) (n : Nat) (b0 : Nat) (i : Value) (wr : World) : Prop :=
  ∃ (k : Nat) (os : List Int), i = .int .i64 k ∧ k ≤ n ∧ OwnK wr b0 54 .u64 (.slice (some ⟨b0, 0, none⟩) n n) os ∧ os.length = n ∧ (∀ t, t < k → dgt os t = dgt ls t) ∧ Below W.heap.size W wr
def FitRel (W : World) (la : List Int) (q : Nat) (f : Int) (o i : Value) (wr : World) : Prop :=
  ∃ (k : Nat) (u : Int), wr = W ∧ i = .int .i64 k ∧ o = .int .u64 u ∧ q + k ≤ la.length ∧ U u ∧ (u = 0 ↔ ∀ t, q ≤ t → t < q + k → dgt la t = f)
theorem fit_step {la : List Int} {q k : Nat} {u f : Int} (hu : Us la) (h0 : U u) (hf : U f) (h : u = 0 ↔ ∀ t, q ≤ t → t < q + k → dgt la t = f) :
    U (bits .or .u64 u (bits .xor .u64 (dgt la (q + k)) f)) ∧ (bits .or .u64 u (bits .xor .u64 (dgt la (q + k)) f) = 0 ↔ ∀ t, q ≤ t → t < q + (k + 1) → dgt la t = f) := by
  have hx := U_xor (hu.dgt (q + k)) hf
  refine ⟨U_or h0 hx, ?_⟩
  rw [or_zero h0 hx, h]
  have e := decide_eq_decide.1 (xor_zero (hu.dgt (q + k)) hf)
  rw [e]
  constructor
  · rintro ⟨a, b⟩ t h1 h2
    rcases Nat.lt_or_ge t (q + k) with h3 | h3
    · exact a t h1 h3
    · rw [show t = q + k by omega]; exact b
  · intro a
    exact ⟨fun t h1 h2 => a t h1 (by omega), a (q + k) (by omega) (by omega)⟩
theorem above_c (A : Option Addr) (c n : Nat) (la : List Int) (S : Nat → Prop) (w : World) (hw : Wts w) (ha : SlR w S .u64 A la) (hu : Us la) (l1 : 1 ≤ la.length) (l8 : la.length ≤ 1000) (hn : n = la.length) :
    Calls Tryd.prog 57 #[.slice A n c] w fun e w' => e = .returned (.int .u64 (mk (neg la))) ∧ ∃ n, w' = w.drewN n := by
  subst hn; exact above_any A c la S w hw ha hu l1 l8
end Go.Proofs.YtdcckjpeibnkbaaDoor
